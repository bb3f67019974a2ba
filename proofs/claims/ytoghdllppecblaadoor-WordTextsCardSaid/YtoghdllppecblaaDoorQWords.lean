/- word's Words: a text's words: the walk. -/
import Derived.Test.YtoghdllppecblaaDoorQMid
import Derived.Test.YtoghdllppecblaaDoorQRegion
import Derived.RangeFuncNested
import Derived.RangeFuncBox
import Derived.Maps.OwnIn
import Derived.BigRegionIn
namespace Go.Proofs.YtoghdllppecblaaDoor
open Go.RowKit
set_option linter.unusedVariables false
set_option linter.unusedSimpArgs false

open Go.Shelf
attribute [local go_sem] Oper.semAt_some
theorem step_none {s : St} {g : Sg} (h : g.text = []) : step s g = (s.1, false, s.2.2) := by unfold step; rw [if_pos h]
theorem step_new {ws : List Wd} {f : Bool} {g : Sg} (h : g.text ≠ []) : step (ws, false, f) g = (ws ++ [⟨g.text, g.a, g.b⟩], true, false) := by unfold step; rw [if_neg h, if_pos rfl]
theorem step_more {ini : List Wd} {w : Wd} {f : Bool} {g : Sg} (h : g.text ≠ []) : step (ini ++ [w], true, f) g = (ini ++ [grownW w g f], true, cutB w g f) := by
  unfold step
  rw [if_neg h, if_neg (by simp)]
  simp only [lastW_snoc, List.dropLast_concat]
theorem boxed_same {W : World} {B : Nat} {t : TypeId} {v v' : Value} (h : Boxed W B t v) (h' : Boxed W B t v') : v = v' := by
  have e := h.cell.symm.trans h'.cell
  exact Option.some.inj e
theorem ne_str {l : List UInt8} (h : l ≠ []) : (mkB l).toList.isEmpty = false := by
  rw [ByteArray.toList_eq]
  unfold mkB
  cases l with
  | nil => exact absurd rfl h
  | cons a l => rfl
/-- What a round has at hand: its sign in a box of its own, apart from the words. -/
def AxW (B0 : Nat) (t : List UInt8) (x : Nat) (W : World) (Bx : Nat) : Prop :=
  B0 + 3 < Bx ∧ Bx < W.heap.size ∧ (∃ v, Boxed W B0 28 v ∧ v.ownBlock ≠ some Bx) ∧ (∃ cs, W.heap[Bx]? = some (.cells cs 33 (0, 0))) ∧
    (W.cell? ⟨Bx, 0, none⟩ = some (.string (mkB (sgnOf t x).text)) ∧ W.cell? ⟨Bx, 1, none⟩ = some (.int .i64 ((sgnOf t x).a : Nat)) ∧ W.cell? ⟨Bx, 2, none⟩ = some (.int .i64 ((sgnOf t x).b : Nat)))
theorem cells_new3 (W : World) (a b c : Value) (T : TypeId) : ∀ (j : Nat) (u : Value), [a, b, c][j]? = some u → (W.alloc (.cells #[a, b, c] T)).cell? ((⟨W.heap.size, 0, none⟩ : Addr).add j) = some u := by
  intro j u h
  rw [Addr.add_mid, Nat.zero_add]
  rcases j with _ | _ | _ | j
  · simp at h ⊢; exact h
  · simp at h ⊢; exact h
  · simp at h ⊢; exact h
  · simp at h
set_option maxRecDepth 100000 in
set_option maxHeartbeats 16000000 in
theorem words_any (t : List UInt8) (ht : t.length ≤ 1000000) (w : World) (hT : TabT w) : Calls Tryd.prog 14 #[.string (mkB t)] w fun e w' => ∃ v, e = .returned v ∧ OwnW w' w.heap.size v (wordsP t) ∧ Below w.heap.size w w' := by
  refine (callsIn_wide (n := 6)).1 ?_
  refine callsIn_of_wp_marks Tryd.func14 rfl trivial ?_ rfl
  simp only [Tryd.ntmps14, List.size_toArray, List.length_cons, List.length_nil, Nat.reduceAdd, Nat.reduceSub, Array.replicate_succ, Array.replicate_zero, List.push_toArray, List.append_toArray, List.nil_append, List.cons_append]
  obtain ⟨i0, hi0, hz0, hz1, hz2⟩ := info_parts infoW
  gi_wp2_with (refine ⟨trivial, ?_⟩; gi_at_call 23; refine CallsIn.mono (callsIn_wide.2 (signs_any _ _)) ?_; rintro _ _ ⟨rfl, rfl⟩)
  have bV := (((Boxed.new w 28 (.slice none 0 0)).alloc (.cells #[.bool false] 4)).alloc (.cells #[.bool false] 4)).alloc (.cells #[.string (mkB t)] 9)
  have bI := ((Boxed.new2 w (.cells #[.slice none 0 0] 28) 4 (.bool false)).alloc (.cells #[.bool false] 4)).alloc (.cells #[.string (mkB t)] 9)
  have bF := (Boxed.new2 (w.alloc (.cells #[.slice none 0 0] 28)) (.cells #[.bool false] 4) 4 (.bool false)).alloc (.cells #[.string (mkB t)] 9)
  have bT := Boxed.new2 ((w.alloc (.cells #[.slice none 0 0] 28)).alloc (.cells #[.bool false] 4)) (.cells #[.bool false] 4) 9 (.string (mkB t))
  have hB0 : Below w.heap.size w ((((w.alloc (.cells #[.slice none 0 0] 28)).alloc (.cells #[.bool false] 4)).alloc (.cells #[.bool false] 4)).alloc (.cells #[.string (mkB t)] 9)) := ((((Below.refl _ _).alloc (Nat.le_refl _) _).alloc (by simp) _).alloc (by simp; omega) _).alloc (by simp; omega) _
  have hsz : ((((w.alloc (.cells #[.slice none 0 0] 28)).alloc (.cells #[.bool false] 4)).alloc (.cells #[.bool false] 4)).alloc (.cells #[.string (mkB t)] 9)).heap.size = w.heap.size + 4 := by simp
  simp only [World.size_alloc] at bF bT
  obtain ⟨W0, hW0⟩ : ∃ W0, ((((w.alloc (.cells #[.slice none 0 0] 28)).alloc (.cells #[.bool false] 4)).alloc (.cells #[.bool false] 4)).alloc (.cells #[.string (mkB t)] 9)) = W0 := ⟨_, rfl⟩
  rw [hW0] at bV bI bF bT hB0 hsz ⊢
  clear hW0
  have hO0 : OwnW W0 w.heap.size (.slice none 0 0) [] := ⟨World.ownsRow_nil W0 _ _ 3, by simp⟩
  refine wpIn_rangeFunc_ownH rfl (by omega) (gf := 26) (lb := #[.pointer (some ⟨w.heap.size + 1 + 1 + 1, 0, none⟩)]) rfl trivial (enters_of Tryd.func26 (by kernel_rfl) rfl)
    (signs_stops (6 - 1) (by omega) w (w.heap.size + 1 + 1 + 1) t ht hT W0 hB0 (by omega) bT.cell) (fun h k => KpS.t h k) (KpS.b (by omega)) (Below.refl _ _) (fun _ => rfl)
    (fun pre W => ((∃ v, Boxed W w.heap.size 28 v ∧ W.ownsRow w.heap.size 33 3 v (runS t pre).1.length (rowW (runS t pre).1) ∧ (v = .slice none 0 0 ↔ (runS t pre).1 = [])) ∧ (Boxed W (w.heap.size + 1) 4 (.bool (runS t pre).2.1) ∧ Boxed W (w.heap.size + 1 + 1) 4 (.bool (runS t pre).2.2))) ∧ (Below w.heap.size w W ∧ w.heap.size + 4 ≤ W.heap.size))
    (fun cd pre W => False)
    (OwnFrom.and (OwnFrom.and (Own.from (holdsRow_own w.heap.size w.heap.size 28 33 3 (fun pre => (runS t pre).1.length) (fun pre => rowW (runS t pre).1) (fun pre v => v = .slice none 0 0 ↔ (runS t pre).1 = [])) _) (OwnFrom.and (Own.from (boxed_own _ _ (fun pre => .bool (runS t pre).2.1)) _) (Own.from (boxed_own _ _ (fun pre => .bool (runS t pre).2.2)) _))) (OwnFrom.and (ownFrom_below (Nat.le_refl _) (by omega)) (fun s A B row hs hg hr => Nat.le_trans hs hg.size)))
    (fun cd s A B row hs hg hr => hs)
    ⟨⟨⟨_, bV, hO0⟩, bI, bF⟩, hB0, by omega⟩
    (fun x a' W => ∃ Bx, AxW w.heap.size t x W Bx ∧ a' = { tmps := #[.string (mkB t), undef, .slice none 0 0, .pointer (some ⟨w.heap.size, 0, none⟩), .pointer (some ⟨w.heap.size + 1, 0, none⟩), .pointer (some ⟨w.heap.size + 1 + 1, 0, none⟩), .pointer (some ⟨Bx, 0, none⟩), undef, .string (mkB t), .func (.func 26) #[] #[.pointer (some ⟨w.heap.size + 1 + 1 + 1, 0, none⟩)], .agg #[.string (mkB (sgnOf t x).text), .int .i64 ((sgnOf t x).a : Nat), .int .i64 ((sgnOf t x).b : Nat)], undef, undef, undef, undef, undef, undef, undef, undef, undef, undef, undef, undef, undef, undef, undef, undef, undef, undef, undef, undef, undef, undef, undef, undef, undef, undef, undef, undef, undef, undef, undef, undef, undef, undef, undef, undef, undef, undef, undef, undef, undef, undef, undef, undef, undef, undef], defers := [] })
    (fun x a' _ X Y row hs hg hr => by
      obtain ⟨Bx, ⟨h1, h2, ⟨v, h3, h4⟩, ⟨cs, h5⟩, h6, h7, h8⟩, h9⟩ := hs
      have hr' := fun r e => (hr r e).2
      refine ⟨Bx, ⟨h1, Nat.lt_of_lt_of_le h2 hg.size, ⟨v, boxed_own _ _ (fun (_ : Unit) => v) () X Y row h3 hg hr', h4⟩, ⟨cs, (hg.block Bx h2 (fun e => ?_)).trans h5⟩, cell_kept h6 hg hr', cell_kept h7 hg hr', cell_kept h8 hg hr'⟩, h9⟩
      obtain ⟨o, ho, hc⟩ := hr' Bx e.symm
      rw [h5] at ho
      cases ho
      cases hc)
    ?assign ?body ?done ?stop
  case assign =>
    rintro l pre x W K ⟨⟨⟨v, bV1, hrow, hnil⟩, bI1, bF1⟩, hB1, hz⟩ hK
    have HKK := Lib.hid hK
    clear hK
    rw [show encSg t x = #[.agg #[.string (mkB (sgnOf t x).text), .int .i64 ((sgnOf t x).a : Nat), .int .i64 ((sgnOf t x).b : Nat)]] from rfl]
    gi_wp2
    have hsW := hB1.size
    have hl3 : Below W.heap.size W (W.alloc (.cells #[.string (mkB (sgnOf t x).text), .int .i64 ((sgnOf t x).a : Nat), .int .i64 ((sgnOf t x).b : Nat)] 33)) := (Below.refl _ W).alloc (Nat.le_refl _) _
    refine HKK.out _ _ ((KeepsOthers.alloc _ _).from _) ⟨hl3.mono hsW, keepsWalks_below hl3⟩ ⟨⟨⟨v, bV1.alloc _, hrow.alloc _, hnil⟩, bI1.alloc _, bF1.alloc _⟩, hB1.trans (hl3.mono hsW), by simp; omega⟩ ⟨W.heap.size, ⟨by omega, by simp, ⟨v, bV1.alloc _, ?_⟩, ⟨_, World.alloc_heap_new W _⟩, by go_simp, by go_simp, by go_simp⟩, rfl⟩
    intro e
    have := hrow.lt _ e
    omega
  case body =>
    rintro l pre x a' W hl ⟨r, hr⟩ ⟨⟨⟨v, bV1, hrow, hnil⟩, bI1, bF1⟩, hB1, hz⟩ ⟨Bx, ⟨hx1, hx2, ⟨v', hv1, hv2⟩, hxc, y0, y1, y2⟩, rfl⟩ hlt
    obtain rfl := boxed_same bV1 hv1
    have hg4 := sgn_len t x
    have hgood := run_good t pre
    have hlen := run_len t pre
    have hsn := runS_snoc t pre x
    have hmn : 1 ≤ 6 - 1 - 1 := by omega
    have hmx : Tryd.prog.follows .mixedOrders = true := by kernel_rfl
    have cV := bV1.cell
    have cI := bI1.cell
    have fI := bI1.frozen
    have cF := bF1.cell
    have fF := bF1.frozen
    have hgI : ∀ g, v.ownBlock = some g → g ≠ w.heap.size ∧ g ≠ w.heap.size + 1 ∧ g ≠ w.heap.size + 1 + 1 := fun g hg => ⟨fun e => bV1.not_row (by decide) hrow (by rw [hg, e]), fun e => bI1.not_row (by decide) hrow (by rw [hg, e]), fun e => bF1.not_row (by decide) hrow (by rw [hg, e])⟩
    obtain ⟨s, hs⟩ : ∃ s, s = runS t pre := ⟨_, rfl⟩
    obtain ⟨sg, hsg⟩ : ∃ sg, sg = sgnOf t x := ⟨_, rfl⟩
    rw [← hs] at hsn hgood hlen hrow hnil bI1 bF1 cI cF
    rw [← hsg] at hsn hg4 y0 y1 y2 ⊢
    obtain ⟨ws, ins, full⟩ := s
    obtain ⟨tx, xa, xb⟩ := sg
    dsimp only at hrow hnil bI1 bF1 cI cF hg4 y0 y1 y2 hlen
    by_cases htx : tx = []
    · rw [step_none htx] at hsn
      have HS := Lib.hid hsn
      subst htx
      have y0' : W.cell? ⟨Bx, 0, none⟩ = some (.string ⟨#[]⟩) := y0
      clear hsn hs hsg hgood y0
      gi_wp2
      refine ⟨(KeepsOthers.setCell _ _ _).from _, ⟨(Below.refl w.heap.size W).setCell (p := ⟨w.heap.size + 1, 0, none⟩) (by simp) _, KeepsWalks.setCell _ _ _⟩, ?_⟩
      show IWs w (runS t (pre ++ [x])) _
      rw [HS.out]
      exact ⟨⟨⟨v, bV1.other (by omega) _, ownsRow_setCell_other hrow (fun e => (hgI _ e).2.1 rfl) _, hnil⟩, bI1.set _, bF1.other (by omega) _⟩, hB1.setCell (p := ⟨w.heap.size + 1, 0, none⟩) (by simp) _, by simpa using hz⟩
    · have hne := ne_str htx
      cases hi : ins
      · subst hi
        rw [step_new htx] at hsn
        have hgsz : w.heap.size ≤ W.heap.size := hB1.size
        gi_upto_region 9 with (gi_at_builtin; refine wpListIn_append_own_at _ rfl _ _ 28 rfl w.heap.size 33 i0 (.agg #[.string ⟨#[]⟩, .int .i64 0, .int .i64 0]) 3 32 Tryd.underlying28 hi0 hz0 hz1 hz2 rfl (by decide) _ _ _ rfl (hrow.alloc _) ⟨W.heap.size, 0, none⟩ 1 1 [.string ⟨#[]⟩, .int .i64 (xa : Nat), .int .i64 0] rfl rfl (cells_new3 W _ _ _ _) (by simp [Value.oneCell']) (by unfold maxLen; omega) (by omega) (by simp; omega) ?_; intro v2 w1 hown' hgrow _ hat; obtain ⟨g, cap, rfl⟩ := ownsRow_succ hown'; obtain ⟨hv1', hv2', hr2', hk2', hb2'⟩ := bV1.appended (by decide) hrow hB1.size (Nat.le_refl _) hown' hgrow; have hc1' := hv1'.cell; have hf1' := hv1'.frozen)
        have hgr : (W.alloc (.cells #[.string ⟨#[]⟩, .int .i64 (xa : Nat), .int .i64 0] 33)).grownBy w1 v.ownBlock := hgrow
        have hat' : some g = v.ownBlock ∨ some g = some (W.heap.size + 1) := by
          have h : some g = v.ownBlock ∨ some g = some (W.alloc (.cells #[.string ⟨#[]⟩, .int .i64 (xa : Nat), .int .i64 0] 33)).heap.size := hat
          simpa using h
        have M0 := Mid.begin (xa := xa) hv2' hr2' hrow bI1 bF1 y0 y2 hx1 hx2 hv2 hz hgr hat' hB1 hb2'
        have K0 := ((show KK W0.heap.size w.heap.size W _ from ⟨hk2'.from _, hb2', hk2'.walks⟩).set (w.heap.size + 1) 0 (by omega) (.bool true)).set (w.heap.size + 1 + 1) 0 (by omega) (.bool false)
        have bI2 := begin_box bI1 (by omega) hrow hgr (.slice (some ⟨g, 0, none⟩) (ws.length + 1) cap)
        have bF2 := begin_box bF1 (by omega) hrow hgr (.slice (some ⟨g, 0, none⟩) (ws.length + 1) cap)
        have cI9 := bI2.cell
        have fI9 := bI2.frozen
        have cF9 := bF2.cell
        have fF9 := bF2.frozen
        clear hs hsg hgood hgI hrow hnil bV1 hv1 hv2 bI1 bF1 hxc y0 y1 y2 hr2' hv2' hown' hgrow hgr hat hat' hk2' hb2' hc1' hf1' hv1' bI2 bF2 cV cI fI cF fF
        gi_upto_region 10 with fail
        obtain ⟨WC, hWC⟩ : ∃ WC, ((w1.setCell ⟨w.heap.size, 0, none⟩ (.slice (some ⟨g, 0, none⟩) (ws.length + 1) cap)).setCell ⟨w.heap.size + 1, 0, none⟩ (.bool true)).setCell ⟨w.heap.size + 1 + 1, 0, none⟩ (.bool false) = WC := ⟨_, rfl⟩
        rw [hWC] at M0 K0 ⊢
        clear hWC cI9 fI9 cF9 fF9
        obtain ⟨ini, hini⟩ : ∃ ini, ini = ws := ⟨_, rfl⟩
        obtain ⟨k, hk⟩ : ∃ k, k = ini.length := ⟨_, rfl⟩
        obtain ⟨wd, hwd⟩ : ∃ wd : Wd, wd = ⟨[], xa, 0⟩ := ⟨_, rfl⟩
        have HS := Lib.hid (show runS t (pre ++ [x]) = (ini ++ [⟨wd.text ++ tx, wd.a, xb⟩], true, false) by rw [hsn, hini, hwd]; rfl)
        have hw32 : wd.text.length ≤ 32 := by rw [hwd]; simp
        have hw0 : wd.text.length = 0 := by rw [hwd]; rfl
        rw [← hini, ← hwd] at M0
        rw [← hini] at hlen
        have cV := M0.bV.cell
        have hkl : k + 1 ≤ 1000000 := by omega
        clear hsn hini hwd
        have HK := Lib.hid hk
        rw [← hk] at cV
        have hm1 : IntKind.i64.wrap ((k : Int) + 1 - 1) = (k : Int) := by rw [IntWalk.i64_in _ (by omega)]; omega
        have c2' := M0.c2
        rw [← hk] at c2'
        have f2' := M0.fz (k * 3 + 2)
        have y0' := M0.y0
        have y2' := M0.y2
        have hte := M0.n1
        have hb30 := M0.n3
        have hb40 := M0.ne
        obtain ⟨b1, hb1⟩ : ∃ b, b = mkB wd.text := ⟨_, rfl⟩
        obtain ⟨b2, hb2⟩ : ∃ b, b = mkB tx := ⟨_, rfl⟩
        have hz1' : b1.size = wd.text.length := by rw [hb1, mkB_size]
        have hz2' : b2.size = tx.length := by rw [hb2, mkB_size]
        have hwS : IntKind.i64.wrap ((b1.size : Int) + (b2.size : Int)) = (b1.size : Int) + (b2.size : Int) := IntWalk.i64_in _ (by omega)
        have HB1 := Lib.hid hb1
        have HB2 := Lib.hid hb2
        clear hb1 hb2
        have hcI : ¬ (32 : Int) < (b1.size : Int) + (b2.size : Int) := by omega
        have hcat : ¬ 9223372036854775807 < b1.size + b2.size := by omega
        clear hz1' hz2' hw32 hw0 hg4 hlen hk
        gi_upto_region 12 with fail
        have M3 := M0.to xb
        have K3 := K0.set g (ini.length * 3 + 2) M0.base.1 (.int .i64 (xb : Nat))
        rw [← HK.out] at M3 K3
        obtain ⟨W3, hW3⟩ : ∃ W3, WC.setCell ⟨g, k * 3 + 2, none⟩ (.int .i64 (xb : Nat)) = W3 := ⟨_, rfl⟩
        rw [hW3] at M3 K3 ⊢
        clear hW3 M0 K0 cV c2' f2' y0' y2' hm1
        have cF3 := M3.bF.cell
        have fF3 := M3.bF.frozen
        have c03 := M3.c0
        rw [← HK.out] at c03
        dsimp only at c03
        have y03 := M3.y0
        rw [← HB1.out] at c03
        rw [← HB2.out] at y03
        refine region_round (S := fun _ => True) hmx (by kernel_rfl) ?_
        simp only [List.size_toArray, List.length_cons, List.length_nil, Nat.reduceAdd, Array.replicate_succ, Array.replicate_zero]
        refine wpAnyH_ready (rs := [0]) (by kernel_rfl) (by simp) ?_
        refine (AllReadyH.cons (o := { dst := some 32, op := Op.load 4 (Operand.tmp 5), type := 4, pos := "word.go:113", after := #[], guard := none }) rfl (fun K hK => ?_) AllReadyH.nil)
        go_simp
        refine hK.out _ _ trivial (fun _ => ?_)
        clear hK K
        refine wpAnyH_take (i := 1) (oi := { dst := some 33, op := Op.move (Operand.tmp 32), type := 4, pos := "word.go:113", after := #[{ on := 0, ground := Ground.data }], guard := none }) (v := ?_) rfl (by kernel_rfl) (by kernel_rfl) (by kernel_rfl) (fun _ _ _ h => h) (Or.inl ⟨by kernel_rfl, ?_⟩) trivial ?_
        rotate_left 1
        · (intro w0 _; go_simp; (try with_reducible rfl))
        simp only [Act.put, List.setIfInBounds_toArray, List.set_cons_zero, List.set_cons_succ]
        refine wpAnyH_take (i := 2) (oi := { dst := some 34, op := Op.move (Operand.tmp 7), type := 44, pos := "word.go:113", after := #[{ on := 1, ground := Ground.guard }], guard := some (1, false) }) (v := ?_) rfl (by kernel_rfl) (by kernel_rfl) (by kernel_rfl) (fun _ _ _ h => h) (Or.inl ⟨by kernel_rfl, ?_⟩) trivial ?_
        rotate_left 1
        · (intro w0 _; go_simp; (try with_reducible rfl))
        simp only [Act.put, List.setIfInBounds_toArray, List.set_cons_zero, List.set_cons_succ]
        refine wpAnyH_take (i := 7) (oi := { dst := some 39, op := Op.fieldAddr 33 (Operand.tmp 6) 0, type := 0, pos := "word.go:113", after := #[{ on := 1, ground := Ground.guard }], guard := some (1, false) }) (v := ?_) rfl (by kernel_rfl) (by kernel_rfl) (by kernel_rfl) (fun _ _ _ h => h) (Or.inl ⟨by kernel_rfl, ?_⟩) trivial ?_
        rotate_left 1
        · (intro w0 _; go_simp; (try with_reducible rfl))
        simp only [Act.put, List.setIfInBounds_toArray, List.set_cons_zero, List.set_cons_succ]
        refine wpAnyH_take (i := 3) (oi := { dst := some 35, op := Op.nilCheck (Operand.tmp 34), type := 0, pos := "word.go:113", after := #[{ on := 2, ground := Ground.data }, { on := 1, ground := Ground.guard }], guard := some (1, false) }) (v := ?_) rfl (by kernel_rfl) (by kernel_rfl) (by kernel_rfl) (fun _ _ _ h => h) (Or.inl ⟨by kernel_rfl, ?_⟩) trivial ?_
        rotate_left 1
        · (intro w0 _; go_simp; (try with_reducible rfl))
        simp only [Act.put, List.setIfInBounds_toArray, List.set_cons_zero, List.set_cons_succ]
        refine wpAnyH_take (i := 4) (oi := { dst := some 36, op := Op.fieldAddr 33 (Operand.tmp 35) 0, type := 0, pos := "word.go:113", after := #[{ on := 3, ground := Ground.data }, { on := 1, ground := Ground.guard }], guard := some (1, false) }) (v := ?_) rfl (by kernel_rfl) (by kernel_rfl) (by kernel_rfl) (fun _ _ _ h => h) (Or.inl ⟨by kernel_rfl, ?_⟩) trivial ?_
        rotate_left 1
        · (intro w0 _; go_simp; (try with_reducible rfl))
        simp only [Act.put, List.setIfInBounds_toArray, List.set_cons_zero, List.set_cons_succ]
        refine wpAnyH_ready (rs := [5, 8]) (by kernel_rfl) (by simp) ?_
        refine (AllReadyH.cons (o := { dst := some 37, op := Op.load 9 (Operand.tmp 36), type := 9, pos := "word.go:113", after := #[{ on := 4, ground := Ground.data }, { on := 1, ground := Ground.guard }], guard := some (1, false) }) rfl (fun K hK => ?_) (AllReadyH.cons (o := { dst := some 40, op := Op.load 9 (Operand.tmp 39), type := 9, pos := "word.go:113", after := #[{ on := 7, ground := Ground.data }, { on := 1, ground := Ground.guard }], guard := some (1, false) }) rfl (fun K hK => ?_) AllReadyH.nil))
        · go_simp
          refine hK.out _ _ trivial (fun _ => ?_)
          clear hK K
          refine wpAnyH_take (i := 6) (oi := { dst := some 38, op := Op.call { callee := Callee.builtin Builtin.len, args := #[Operand.tmp 37], argTypes := #[9] }, type := 3, pos := "word.go:113", after := #[{ on := 5, ground := Ground.data }, { on := 1, ground := Ground.guard }], guard := some (1, false) }) (v := ?_) rfl (by kernel_rfl) (by kernel_rfl) (by kernel_rfl) (fun _ _ _ h => h) (Or.inl ⟨by kernel_rfl, ?_⟩) trivial ?_
          rotate_left 1
          · (intro w0 _; go_simp; (try with_reducible rfl))
          simp only [Act.put, List.setIfInBounds_toArray, List.set_cons_zero, List.set_cons_succ]
          refine wpAnyH_ready (rs := [8]) (by kernel_rfl) (by simp) ?_
          refine (AllReadyH.cons (o := { dst := some 40, op := Op.load 9 (Operand.tmp 39), type := 9, pos := "word.go:113", after := #[{ on := 7, ground := Ground.data }, { on := 1, ground := Ground.guard }], guard := some (1, false) }) rfl (fun K hK => ?_) AllReadyH.nil)
          go_simp
          refine hK.out _ _ trivial (fun _ => ?_)
          clear hK K
          refine wpAnyH_take (i := 9) (oi := { dst := some 41, op := Op.call { callee := Callee.builtin Builtin.len, args := #[Operand.tmp 40], argTypes := #[9] }, type := 3, pos := "word.go:113", after := #[{ on := 8, ground := Ground.data }, { on := 1, ground := Ground.guard }], guard := some (1, false) }) (v := ?_) rfl (by kernel_rfl) (by kernel_rfl) (by kernel_rfl) (fun _ _ _ h => h) (Or.inl ⟨by kernel_rfl, ?_⟩) trivial ?_
          rotate_left 1
          · (intro w0 _; go_simp; (try with_reducible rfl))
          simp only [Act.put, List.setIfInBounds_toArray, List.set_cons_zero, List.set_cons_succ]
          refine wpAnyH_take (i := 10) (oi := { dst := some 42, op := Op.binOp BinOp.add 3 (Operand.tmp 38) (Operand.tmp 41) 3, type := 3, pos := "word.go:113", after := #[{ on := 6, ground := Ground.data }, { on := 9, ground := Ground.data }, { on := 1, ground := Ground.guard }], guard := some (1, false) }) (v := ?_) rfl (by kernel_rfl) (by kernel_rfl) (by kernel_rfl) (fun _ _ _ h => h) (Or.inl ⟨by kernel_rfl, ?_⟩) trivial ?_
          rotate_left 1
          · (intro w0 _; go_simp; (try with_reducible rfl))
          simp only [Act.put, List.setIfInBounds_toArray, List.set_cons_zero, List.set_cons_succ]
          refine wpAnyH_take (i := 11) (oi := { dst := some 43, op := Op.binOp BinOp.gtr 3 (Operand.tmp 42) (Operand.const (Value.int IntKind.i64 32)) 3, type := 4, pos := "word.go:113", after := #[{ on := 10, ground := Ground.data }, { on := 1, ground := Ground.guard }], guard := some (1, false) }) (v := ?_) rfl (by kernel_rfl) (by kernel_rfl) (by kernel_rfl) (fun _ _ _ h => h) (Or.inl ⟨by kernel_rfl, ?_⟩) trivial ?_
          rotate_left 1
          · (intro w0 _; go_simp; (try with_reducible rfl))
          simp only [Act.put, List.setIfInBounds_toArray, List.set_cons_zero, List.set_cons_succ]
          refine wpAnyH_take (i := 12) (oi := { dst := some 44, op := Op.pick (Operand.tmp 33) (Operand.const (Value.bool true)) (Operand.tmp 43), type := 4, pos := "word.go:113", after := #[{ on := 1, ground := Ground.data }, { on := 11, ground := Ground.data }], guard := none }) (v := ?_) rfl (by kernel_rfl) (by kernel_rfl) (by kernel_rfl) (fun _ _ _ h => h) (Or.inl ⟨by kernel_rfl, ?_⟩) trivial ?_
          rotate_left 1
          · (intro w0 _; go_simp; (try with_reducible rfl))
          simp only [Act.put, List.setIfInBounds_toArray, List.set_cons_zero, List.set_cons_succ]
          refine wpAnyH_ready (rs := [13]) (by kernel_rfl) (by simp) ?_
          refine (AllReadyH.cons (o := { dst := none, op := Op.store 4 (Operand.tmp 5) (Operand.tmp 44), type := 0, pos := "word.go:113", after := #[{ on := 12, ground := Ground.data }, { on := 1, ground := Ground.chain }, { on := 0, ground := Ground.phase }, { on := 1, ground := Ground.phase }, { on := 2, ground := Ground.phase }, { on := 3, ground := Ground.phase }, { on := 4, ground := Ground.phase }, { on := 5, ground := Ground.phase }, { on := 6, ground := Ground.phase }, { on := 7, ground := Ground.phase }, { on := 8, ground := Ground.phase }, { on := 9, ground := Ground.phase }, { on := 10, ground := Ground.phase }, { on := 11, ground := Ground.phase }, { on := 12, ground := Ground.phase }], guard := none }) rfl (fun K hK => ?_) AllReadyH.nil)
          go_simp
          refine hK.out _ _ trivial (fun _ => ?_)
          clear hK K
          refine wpAnyH_done (by kernel_rfl) ?_ _
          simp only [onlyN, Exit.then]
          have M5 := (M3.setFull false).drew
          have K5 := (K3.set (w.heap.size + 1 + 1) 0 (by omega) (.bool false)).drew
          obtain ⟨W5, hW5⟩ : ∃ W5, (W3.setCell ⟨w.heap.size + 1 + 1, 0, none⟩ (.bool false)).drew = W5 := ⟨_, rfl⟩
          rw [hW5] at M5 K5 ⊢
          clear hW5 M3 K3 cF3 fF3 c03 y03
          have cF5 := M5.bF.cell
          have c05 := M5.c0
          rw [← HK.out] at c05
          dsimp only at c05
          have y05 := M5.y0
          have f05 := M5.fz (k * 3)
          rw [← HB1.out] at c05
          rw [← HB2.out] at y05
          gi_upto_region 14 with fail
          refine region_round (S := fun _ => True) hmx (by kernel_rfl) ?_
          simp only [List.size_toArray, List.length_cons, List.length_nil, Nat.reduceAdd, Array.replicate_succ, Array.replicate_zero]
          refine wpAnyH_take (i := 0) (oi := { dst := some 47, op := Op.move (Operand.tmp 7), type := 44, pos := "word.go:114", after := #[], guard := none }) (v := ?_) rfl (by kernel_rfl) (by kernel_rfl) (by kernel_rfl) (fun _ _ _ h => h) (Or.inl ⟨by kernel_rfl, ?_⟩) trivial ?_
          rotate_left 1
          · (intro w0 _; go_simp; (try with_reducible rfl))
          simp only [Act.put, List.setIfInBounds_toArray, List.set_cons_zero, List.set_cons_succ]
          refine wpAnyH_take (i := 4) (oi := { dst := some 51, op := Op.fieldAddr 33 (Operand.tmp 6) 0, type := 0, pos := "word.go:114", after := #[], guard := none }) (v := ?_) rfl (by kernel_rfl) (by kernel_rfl) (by kernel_rfl) (fun _ _ _ h => h) (Or.inl ⟨by kernel_rfl, ?_⟩) trivial ?_
          rotate_left 1
          · (intro w0 _; go_simp; (try with_reducible rfl))
          simp only [Act.put, List.setIfInBounds_toArray, List.set_cons_zero, List.set_cons_succ]
          refine wpAnyH_take (i := 1) (oi := { dst := some 48, op := Op.nilCheck (Operand.tmp 47), type := 0, pos := "word.go:114", after := #[{ on := 0, ground := Ground.data }], guard := none }) (v := ?_) rfl (by kernel_rfl) (by kernel_rfl) (by kernel_rfl) (fun _ _ _ h => h) (Or.inl ⟨by kernel_rfl, ?_⟩) trivial ?_
          rotate_left 1
          · (intro w0 _; go_simp; (try with_reducible rfl))
          simp only [Act.put, List.setIfInBounds_toArray, List.set_cons_zero, List.set_cons_succ]
          refine wpAnyH_take (i := 2) (oi := { dst := some 49, op := Op.fieldAddr 33 (Operand.tmp 48) 0, type := 0, pos := "word.go:114", after := #[{ on := 1, ground := Ground.data }], guard := none }) (v := ?_) rfl (by kernel_rfl) (by kernel_rfl) (by kernel_rfl) (fun _ _ _ h => h) (Or.inl ⟨by kernel_rfl, ?_⟩) trivial ?_
          rotate_left 1
          · (intro w0 _; go_simp; (try with_reducible rfl))
          simp only [Act.put, List.setIfInBounds_toArray, List.set_cons_zero, List.set_cons_succ]
          refine wpAnyH_ready (rs := [3, 5]) (by kernel_rfl) (by simp) ?_
          refine (AllReadyH.cons (o := { dst := some 50, op := Op.load 9 (Operand.tmp 49), type := 9, pos := "word.go:114", after := #[{ on := 2, ground := Ground.data }], guard := none }) rfl (fun K hK => ?_) (AllReadyH.cons (o := { dst := some 52, op := Op.load 9 (Operand.tmp 51), type := 9, pos := "word.go:114", after := #[{ on := 4, ground := Ground.data }], guard := none }) rfl (fun K hK => ?_) AllReadyH.nil))
          · go_simp
            refine hK.out _ _ trivial (fun _ => ?_)
            clear hK K
            refine wpAnyH_ready (rs := [5]) (by kernel_rfl) (by simp) ?_
            refine (AllReadyH.cons (o := { dst := some 52, op := Op.load 9 (Operand.tmp 51), type := 9, pos := "word.go:114", after := #[{ on := 4, ground := Ground.data }], guard := none }) rfl (fun K hK => ?_) AllReadyH.nil)
            go_simp
            refine hK.out _ _ trivial (fun _ => ?_)
            clear hK K
            refine wpAnyH_take (i := 6) (oi := { dst := some 53, op := Op.binOp BinOp.add 9 (Operand.tmp 50) (Operand.tmp 52) 9, type := 9, pos := "word.go:114", after := #[{ on := 3, ground := Ground.data }, { on := 5, ground := Ground.data }], guard := none }) (v := ?_) rfl (by kernel_rfl) (by kernel_rfl) (by kernel_rfl) (fun _ _ _ h => h) (Or.inl ⟨by kernel_rfl, ?_⟩) trivial ?_
            rotate_left 1
            · (intro w0 _; go_simp; (try with_reducible rfl))
            simp only [Act.put, List.setIfInBounds_toArray, List.set_cons_zero, List.set_cons_succ]
            refine wpAnyH_take (i := 7) (oi := { dst := some 54, op := Op.nilCheck (Operand.tmp 47), type := 0, pos := "word.go:114", after := #[{ on := 0, ground := Ground.data }, { on := 0, ground := Ground.phase }, { on := 1, ground := Ground.phase }, { on := 2, ground := Ground.phase }, { on := 3, ground := Ground.phase }, { on := 4, ground := Ground.phase }, { on := 5, ground := Ground.phase }, { on := 6, ground := Ground.phase }], guard := none }) (v := ?_) rfl (by kernel_rfl) (by kernel_rfl) (by kernel_rfl) (fun _ _ _ h => h) (Or.inl ⟨by kernel_rfl, ?_⟩) trivial ?_
            rotate_left 1
            · (intro w0 _; go_simp; (try with_reducible rfl))
            simp only [Act.put, List.setIfInBounds_toArray, List.set_cons_zero, List.set_cons_succ]
            refine wpAnyH_take (i := 8) (oi := { dst := some 55, op := Op.fieldAddr 33 (Operand.tmp 54) 0, type := 0, pos := "word.go:114", after := #[{ on := 7, ground := Ground.data }, { on := 0, ground := Ground.phase }, { on := 1, ground := Ground.phase }, { on := 2, ground := Ground.phase }, { on := 3, ground := Ground.phase }, { on := 4, ground := Ground.phase }, { on := 5, ground := Ground.phase }, { on := 6, ground := Ground.phase }], guard := none }) (v := ?_) rfl (by kernel_rfl) (by kernel_rfl) (by kernel_rfl) (fun _ _ _ h => h) (Or.inl ⟨by kernel_rfl, ?_⟩) trivial ?_
            rotate_left 1
            · (intro w0 _; go_simp; (try with_reducible rfl))
            simp only [Act.put, List.setIfInBounds_toArray, List.set_cons_zero, List.set_cons_succ]
            refine wpAnyH_ready (rs := [9]) (by kernel_rfl) (by simp) ?_
            refine (AllReadyH.cons (o := { dst := none, op := Op.store 9 (Operand.tmp 55) (Operand.tmp 53), type := 0, pos := "word.go:114", after := #[{ on := 8, ground := Ground.data }, { on := 6, ground := Ground.data }, { on := 0, ground := Ground.phase }, { on := 1, ground := Ground.phase }, { on := 2, ground := Ground.phase }, { on := 3, ground := Ground.phase }, { on := 4, ground := Ground.phase }, { on := 5, ground := Ground.phase }, { on := 6, ground := Ground.phase }], guard := none }) rfl (fun K hK => ?_) AllReadyH.nil)
            go_simp
            refine hK.out _ _ trivial (fun _ => ?_)
            clear hK K
            refine wpAnyH_done (by kernel_rfl) ?_ _
            simp only [onlyN, Exit.then]
            have M7 := (M5.text (wd.text ++ tx)).drew
            have K7 := (K5.set g (ini.length * 3) M5.base.1 (.string (mkB (wd.text ++ tx)))).drew
            rw [← mkB_app, ← HB1.out, ← HB2.out, ← HK.out] at M7 K7
            obtain ⟨W7, hW7⟩ : ∃ W7, (W5.setCell ⟨g, k * 3, none⟩ (.string (b1 ++ b2))).drew = W7 := ⟨_, rfl⟩
            rw [hW7] at M7 K7 ⊢
            clear hW7 M5 K5 c05 y05 f05 cF5
            gi_wp2
            refine ⟨by first | exact K7.1 | (have h1 := K7.1; rw [hsz] at h1; exact h1), K7.2, ?_⟩
            show IWs w (runS t (pre ++ [x])) _
            rw [HS.out]
            exact M7.done
          · go_simp
            refine hK.out _ _ trivial (fun _ => ?_)
            clear hK K
            refine wpAnyH_ready (rs := [3]) (by kernel_rfl) (by simp) ?_
            refine (AllReadyH.cons (o := { dst := some 50, op := Op.load 9 (Operand.tmp 49), type := 9, pos := "word.go:114", after := #[{ on := 2, ground := Ground.data }], guard := none }) rfl (fun K hK => ?_) AllReadyH.nil)
            go_simp
            refine hK.out _ _ trivial (fun _ => ?_)
            clear hK K
            refine wpAnyH_take (i := 6) (oi := { dst := some 53, op := Op.binOp BinOp.add 9 (Operand.tmp 50) (Operand.tmp 52) 9, type := 9, pos := "word.go:114", after := #[{ on := 3, ground := Ground.data }, { on := 5, ground := Ground.data }], guard := none }) (v := ?_) rfl (by kernel_rfl) (by kernel_rfl) (by kernel_rfl) (fun _ _ _ h => h) (Or.inl ⟨by kernel_rfl, ?_⟩) trivial ?_
            rotate_left 1
            · (intro w0 _; go_simp; (try with_reducible rfl))
            simp only [Act.put, List.setIfInBounds_toArray, List.set_cons_zero, List.set_cons_succ]
            refine wpAnyH_take (i := 7) (oi := { dst := some 54, op := Op.nilCheck (Operand.tmp 47), type := 0, pos := "word.go:114", after := #[{ on := 0, ground := Ground.data }, { on := 0, ground := Ground.phase }, { on := 1, ground := Ground.phase }, { on := 2, ground := Ground.phase }, { on := 3, ground := Ground.phase }, { on := 4, ground := Ground.phase }, { on := 5, ground := Ground.phase }, { on := 6, ground := Ground.phase }], guard := none }) (v := ?_) rfl (by kernel_rfl) (by kernel_rfl) (by kernel_rfl) (fun _ _ _ h => h) (Or.inl ⟨by kernel_rfl, ?_⟩) trivial ?_
            rotate_left 1
            · (intro w0 _; go_simp; (try with_reducible rfl))
            simp only [Act.put, List.setIfInBounds_toArray, List.set_cons_zero, List.set_cons_succ]
            refine wpAnyH_take (i := 8) (oi := { dst := some 55, op := Op.fieldAddr 33 (Operand.tmp 54) 0, type := 0, pos := "word.go:114", after := #[{ on := 7, ground := Ground.data }, { on := 0, ground := Ground.phase }, { on := 1, ground := Ground.phase }, { on := 2, ground := Ground.phase }, { on := 3, ground := Ground.phase }, { on := 4, ground := Ground.phase }, { on := 5, ground := Ground.phase }, { on := 6, ground := Ground.phase }], guard := none }) (v := ?_) rfl (by kernel_rfl) (by kernel_rfl) (by kernel_rfl) (fun _ _ _ h => h) (Or.inl ⟨by kernel_rfl, ?_⟩) trivial ?_
            rotate_left 1
            · (intro w0 _; go_simp; (try with_reducible rfl))
            simp only [Act.put, List.setIfInBounds_toArray, List.set_cons_zero, List.set_cons_succ]
            refine wpAnyH_ready (rs := [9]) (by kernel_rfl) (by simp) ?_
            refine (AllReadyH.cons (o := { dst := none, op := Op.store 9 (Operand.tmp 55) (Operand.tmp 53), type := 0, pos := "word.go:114", after := #[{ on := 8, ground := Ground.data }, { on := 6, ground := Ground.data }, { on := 0, ground := Ground.phase }, { on := 1, ground := Ground.phase }, { on := 2, ground := Ground.phase }, { on := 3, ground := Ground.phase }, { on := 4, ground := Ground.phase }, { on := 5, ground := Ground.phase }, { on := 6, ground := Ground.phase }], guard := none }) rfl (fun K hK => ?_) AllReadyH.nil)
            go_simp
            refine hK.out _ _ trivial (fun _ => ?_)
            clear hK K
            refine wpAnyH_done (by kernel_rfl) ?_ _
            simp only [onlyN, Exit.then]
            have M7 := (M5.text (wd.text ++ tx)).drew
            have K7 := (K5.set g (ini.length * 3) M5.base.1 (.string (mkB (wd.text ++ tx)))).drew
            rw [← mkB_app, ← HB1.out, ← HB2.out, ← HK.out] at M7 K7
            obtain ⟨W7, hW7⟩ : ∃ W7, (W5.setCell ⟨g, k * 3, none⟩ (.string (b1 ++ b2))).drew = W7 := ⟨_, rfl⟩
            rw [hW7] at M7 K7 ⊢
            clear hW7 M5 K5 c05 y05 f05 cF5
            gi_wp2
            refine ⟨by first | exact K7.1 | (have h1 := K7.1; rw [hsz] at h1; exact h1), K7.2, ?_⟩
            show IWs w (runS t (pre ++ [x])) _
            rw [HS.out]
            exact M7.done
        · go_simp
          refine hK.out _ _ trivial (fun _ => ?_)
          clear hK K
          refine wpAnyH_take (i := 9) (oi := { dst := some 41, op := Op.call { callee := Callee.builtin Builtin.len, args := #[Operand.tmp 40], argTypes := #[9] }, type := 3, pos := "word.go:113", after := #[{ on := 8, ground := Ground.data }, { on := 1, ground := Ground.guard }], guard := some (1, false) }) (v := ?_) rfl (by kernel_rfl) (by kernel_rfl) (by kernel_rfl) (fun _ _ _ h => h) (Or.inl ⟨by kernel_rfl, ?_⟩) trivial ?_
          rotate_left 1
          · (intro w0 _; go_simp; (try with_reducible rfl))
          simp only [Act.put, List.setIfInBounds_toArray, List.set_cons_zero, List.set_cons_succ]
          refine wpAnyH_ready (rs := [5]) (by kernel_rfl) (by simp) ?_
          refine (AllReadyH.cons (o := { dst := some 37, op := Op.load 9 (Operand.tmp 36), type := 9, pos := "word.go:113", after := #[{ on := 4, ground := Ground.data }, { on := 1, ground := Ground.guard }], guard := some (1, false) }) rfl (fun K hK => ?_) AllReadyH.nil)
          go_simp
          refine hK.out _ _ trivial (fun _ => ?_)
          clear hK K
          refine wpAnyH_take (i := 6) (oi := { dst := some 38, op := Op.call { callee := Callee.builtin Builtin.len, args := #[Operand.tmp 37], argTypes := #[9] }, type := 3, pos := "word.go:113", after := #[{ on := 5, ground := Ground.data }, { on := 1, ground := Ground.guard }], guard := some (1, false) }) (v := ?_) rfl (by kernel_rfl) (by kernel_rfl) (by kernel_rfl) (fun _ _ _ h => h) (Or.inl ⟨by kernel_rfl, ?_⟩) trivial ?_
          rotate_left 1
          · (intro w0 _; go_simp; (try with_reducible rfl))
          simp only [Act.put, List.setIfInBounds_toArray, List.set_cons_zero, List.set_cons_succ]
          refine wpAnyH_take (i := 10) (oi := { dst := some 42, op := Op.binOp BinOp.add 3 (Operand.tmp 38) (Operand.tmp 41) 3, type := 3, pos := "word.go:113", after := #[{ on := 6, ground := Ground.data }, { on := 9, ground := Ground.data }, { on := 1, ground := Ground.guard }], guard := some (1, false) }) (v := ?_) rfl (by kernel_rfl) (by kernel_rfl) (by kernel_rfl) (fun _ _ _ h => h) (Or.inl ⟨by kernel_rfl, ?_⟩) trivial ?_
          rotate_left 1
          · (intro w0 _; go_simp; (try with_reducible rfl))
          simp only [Act.put, List.setIfInBounds_toArray, List.set_cons_zero, List.set_cons_succ]
          refine wpAnyH_take (i := 11) (oi := { dst := some 43, op := Op.binOp BinOp.gtr 3 (Operand.tmp 42) (Operand.const (Value.int IntKind.i64 32)) 3, type := 4, pos := "word.go:113", after := #[{ on := 10, ground := Ground.data }, { on := 1, ground := Ground.guard }], guard := some (1, false) }) (v := ?_) rfl (by kernel_rfl) (by kernel_rfl) (by kernel_rfl) (fun _ _ _ h => h) (Or.inl ⟨by kernel_rfl, ?_⟩) trivial ?_
          rotate_left 1
          · (intro w0 _; go_simp; (try with_reducible rfl))
          simp only [Act.put, List.setIfInBounds_toArray, List.set_cons_zero, List.set_cons_succ]
          refine wpAnyH_take (i := 12) (oi := { dst := some 44, op := Op.pick (Operand.tmp 33) (Operand.const (Value.bool true)) (Operand.tmp 43), type := 4, pos := "word.go:113", after := #[{ on := 1, ground := Ground.data }, { on := 11, ground := Ground.data }], guard := none }) (v := ?_) rfl (by kernel_rfl) (by kernel_rfl) (by kernel_rfl) (fun _ _ _ h => h) (Or.inl ⟨by kernel_rfl, ?_⟩) trivial ?_
          rotate_left 1
          · (intro w0 _; go_simp; (try with_reducible rfl))
          simp only [Act.put, List.setIfInBounds_toArray, List.set_cons_zero, List.set_cons_succ]
          refine wpAnyH_ready (rs := [13]) (by kernel_rfl) (by simp) ?_
          refine (AllReadyH.cons (o := { dst := none, op := Op.store 4 (Operand.tmp 5) (Operand.tmp 44), type := 0, pos := "word.go:113", after := #[{ on := 12, ground := Ground.data }, { on := 1, ground := Ground.chain }, { on := 0, ground := Ground.phase }, { on := 1, ground := Ground.phase }, { on := 2, ground := Ground.phase }, { on := 3, ground := Ground.phase }, { on := 4, ground := Ground.phase }, { on := 5, ground := Ground.phase }, { on := 6, ground := Ground.phase }, { on := 7, ground := Ground.phase }, { on := 8, ground := Ground.phase }, { on := 9, ground := Ground.phase }, { on := 10, ground := Ground.phase }, { on := 11, ground := Ground.phase }, { on := 12, ground := Ground.phase }], guard := none }) rfl (fun K hK => ?_) AllReadyH.nil)
          go_simp
          refine hK.out _ _ trivial (fun _ => ?_)
          clear hK K
          refine wpAnyH_done (by kernel_rfl) ?_ _
          simp only [onlyN, Exit.then]
          have M5 := (M3.setFull false).drew
          have K5 := (K3.set (w.heap.size + 1 + 1) 0 (by omega) (.bool false)).drew
          obtain ⟨W5, hW5⟩ : ∃ W5, (W3.setCell ⟨w.heap.size + 1 + 1, 0, none⟩ (.bool false)).drew = W5 := ⟨_, rfl⟩
          rw [hW5] at M5 K5 ⊢
          clear hW5 M3 K3 cF3 fF3 c03 y03
          have cF5 := M5.bF.cell
          have c05 := M5.c0
          rw [← HK.out] at c05
          dsimp only at c05
          have y05 := M5.y0
          have f05 := M5.fz (k * 3)
          rw [← HB1.out] at c05
          rw [← HB2.out] at y05
          gi_upto_region 14 with fail
          refine region_round (S := fun _ => True) hmx (by kernel_rfl) ?_
          simp only [List.size_toArray, List.length_cons, List.length_nil, Nat.reduceAdd, Array.replicate_succ, Array.replicate_zero]
          refine wpAnyH_take (i := 0) (oi := { dst := some 47, op := Op.move (Operand.tmp 7), type := 44, pos := "word.go:114", after := #[], guard := none }) (v := ?_) rfl (by kernel_rfl) (by kernel_rfl) (by kernel_rfl) (fun _ _ _ h => h) (Or.inl ⟨by kernel_rfl, ?_⟩) trivial ?_
          rotate_left 1
          · (intro w0 _; go_simp; (try with_reducible rfl))
          simp only [Act.put, List.setIfInBounds_toArray, List.set_cons_zero, List.set_cons_succ]
          refine wpAnyH_take (i := 4) (oi := { dst := some 51, op := Op.fieldAddr 33 (Operand.tmp 6) 0, type := 0, pos := "word.go:114", after := #[], guard := none }) (v := ?_) rfl (by kernel_rfl) (by kernel_rfl) (by kernel_rfl) (fun _ _ _ h => h) (Or.inl ⟨by kernel_rfl, ?_⟩) trivial ?_
          rotate_left 1
          · (intro w0 _; go_simp; (try with_reducible rfl))
          simp only [Act.put, List.setIfInBounds_toArray, List.set_cons_zero, List.set_cons_succ]
          refine wpAnyH_take (i := 1) (oi := { dst := some 48, op := Op.nilCheck (Operand.tmp 47), type := 0, pos := "word.go:114", after := #[{ on := 0, ground := Ground.data }], guard := none }) (v := ?_) rfl (by kernel_rfl) (by kernel_rfl) (by kernel_rfl) (fun _ _ _ h => h) (Or.inl ⟨by kernel_rfl, ?_⟩) trivial ?_
          rotate_left 1
          · (intro w0 _; go_simp; (try with_reducible rfl))
          simp only [Act.put, List.setIfInBounds_toArray, List.set_cons_zero, List.set_cons_succ]
          refine wpAnyH_take (i := 2) (oi := { dst := some 49, op := Op.fieldAddr 33 (Operand.tmp 48) 0, type := 0, pos := "word.go:114", after := #[{ on := 1, ground := Ground.data }], guard := none }) (v := ?_) rfl (by kernel_rfl) (by kernel_rfl) (by kernel_rfl) (fun _ _ _ h => h) (Or.inl ⟨by kernel_rfl, ?_⟩) trivial ?_
          rotate_left 1
          · (intro w0 _; go_simp; (try with_reducible rfl))
          simp only [Act.put, List.setIfInBounds_toArray, List.set_cons_zero, List.set_cons_succ]
          refine wpAnyH_ready (rs := [3, 5]) (by kernel_rfl) (by simp) ?_
          refine (AllReadyH.cons (o := { dst := some 50, op := Op.load 9 (Operand.tmp 49), type := 9, pos := "word.go:114", after := #[{ on := 2, ground := Ground.data }], guard := none }) rfl (fun K hK => ?_) (AllReadyH.cons (o := { dst := some 52, op := Op.load 9 (Operand.tmp 51), type := 9, pos := "word.go:114", after := #[{ on := 4, ground := Ground.data }], guard := none }) rfl (fun K hK => ?_) AllReadyH.nil))
          · go_simp
            refine hK.out _ _ trivial (fun _ => ?_)
            clear hK K
            refine wpAnyH_ready (rs := [5]) (by kernel_rfl) (by simp) ?_
            refine (AllReadyH.cons (o := { dst := some 52, op := Op.load 9 (Operand.tmp 51), type := 9, pos := "word.go:114", after := #[{ on := 4, ground := Ground.data }], guard := none }) rfl (fun K hK => ?_) AllReadyH.nil)
            go_simp
            refine hK.out _ _ trivial (fun _ => ?_)
            clear hK K
            refine wpAnyH_take (i := 6) (oi := { dst := some 53, op := Op.binOp BinOp.add 9 (Operand.tmp 50) (Operand.tmp 52) 9, type := 9, pos := "word.go:114", after := #[{ on := 3, ground := Ground.data }, { on := 5, ground := Ground.data }], guard := none }) (v := ?_) rfl (by kernel_rfl) (by kernel_rfl) (by kernel_rfl) (fun _ _ _ h => h) (Or.inl ⟨by kernel_rfl, ?_⟩) trivial ?_
            rotate_left 1
            · (intro w0 _; go_simp; (try with_reducible rfl))
            simp only [Act.put, List.setIfInBounds_toArray, List.set_cons_zero, List.set_cons_succ]
            refine wpAnyH_take (i := 7) (oi := { dst := some 54, op := Op.nilCheck (Operand.tmp 47), type := 0, pos := "word.go:114", after := #[{ on := 0, ground := Ground.data }, { on := 0, ground := Ground.phase }, { on := 1, ground := Ground.phase }, { on := 2, ground := Ground.phase }, { on := 3, ground := Ground.phase }, { on := 4, ground := Ground.phase }, { on := 5, ground := Ground.phase }, { on := 6, ground := Ground.phase }], guard := none }) (v := ?_) rfl (by kernel_rfl) (by kernel_rfl) (by kernel_rfl) (fun _ _ _ h => h) (Or.inl ⟨by kernel_rfl, ?_⟩) trivial ?_
            rotate_left 1
            · (intro w0 _; go_simp; (try with_reducible rfl))
            simp only [Act.put, List.setIfInBounds_toArray, List.set_cons_zero, List.set_cons_succ]
            refine wpAnyH_take (i := 8) (oi := { dst := some 55, op := Op.fieldAddr 33 (Operand.tmp 54) 0, type := 0, pos := "word.go:114", after := #[{ on := 7, ground := Ground.data }, { on := 0, ground := Ground.phase }, { on := 1, ground := Ground.phase }, { on := 2, ground := Ground.phase }, { on := 3, ground := Ground.phase }, { on := 4, ground := Ground.phase }, { on := 5, ground := Ground.phase }, { on := 6, ground := Ground.phase }], guard := none }) (v := ?_) rfl (by kernel_rfl) (by kernel_rfl) (by kernel_rfl) (fun _ _ _ h => h) (Or.inl ⟨by kernel_rfl, ?_⟩) trivial ?_
            rotate_left 1
            · (intro w0 _; go_simp; (try with_reducible rfl))
            simp only [Act.put, List.setIfInBounds_toArray, List.set_cons_zero, List.set_cons_succ]
            refine wpAnyH_ready (rs := [9]) (by kernel_rfl) (by simp) ?_
            refine (AllReadyH.cons (o := { dst := none, op := Op.store 9 (Operand.tmp 55) (Operand.tmp 53), type := 0, pos := "word.go:114", after := #[{ on := 8, ground := Ground.data }, { on := 6, ground := Ground.data }, { on := 0, ground := Ground.phase }, { on := 1, ground := Ground.phase }, { on := 2, ground := Ground.phase }, { on := 3, ground := Ground.phase }, { on := 4, ground := Ground.phase }, { on := 5, ground := Ground.phase }, { on := 6, ground := Ground.phase }], guard := none }) rfl (fun K hK => ?_) AllReadyH.nil)
            go_simp
            refine hK.out _ _ trivial (fun _ => ?_)
            clear hK K
            refine wpAnyH_done (by kernel_rfl) ?_ _
            simp only [onlyN, Exit.then]
            have M7 := (M5.text (wd.text ++ tx)).drew
            have K7 := (K5.set g (ini.length * 3) M5.base.1 (.string (mkB (wd.text ++ tx)))).drew
            rw [← mkB_app, ← HB1.out, ← HB2.out, ← HK.out] at M7 K7
            obtain ⟨W7, hW7⟩ : ∃ W7, (W5.setCell ⟨g, k * 3, none⟩ (.string (b1 ++ b2))).drew = W7 := ⟨_, rfl⟩
            rw [hW7] at M7 K7 ⊢
            clear hW7 M5 K5 c05 y05 f05 cF5
            gi_wp2
            refine ⟨by first | exact K7.1 | (have h1 := K7.1; rw [hsz] at h1; exact h1), K7.2, ?_⟩
            show IWs w (runS t (pre ++ [x])) _
            rw [HS.out]
            exact M7.done
          · go_simp
            refine hK.out _ _ trivial (fun _ => ?_)
            clear hK K
            refine wpAnyH_ready (rs := [3]) (by kernel_rfl) (by simp) ?_
            refine (AllReadyH.cons (o := { dst := some 50, op := Op.load 9 (Operand.tmp 49), type := 9, pos := "word.go:114", after := #[{ on := 2, ground := Ground.data }], guard := none }) rfl (fun K hK => ?_) AllReadyH.nil)
            go_simp
            refine hK.out _ _ trivial (fun _ => ?_)
            clear hK K
            refine wpAnyH_take (i := 6) (oi := { dst := some 53, op := Op.binOp BinOp.add 9 (Operand.tmp 50) (Operand.tmp 52) 9, type := 9, pos := "word.go:114", after := #[{ on := 3, ground := Ground.data }, { on := 5, ground := Ground.data }], guard := none }) (v := ?_) rfl (by kernel_rfl) (by kernel_rfl) (by kernel_rfl) (fun _ _ _ h => h) (Or.inl ⟨by kernel_rfl, ?_⟩) trivial ?_
            rotate_left 1
            · (intro w0 _; go_simp; (try with_reducible rfl))
            simp only [Act.put, List.setIfInBounds_toArray, List.set_cons_zero, List.set_cons_succ]
            refine wpAnyH_take (i := 7) (oi := { dst := some 54, op := Op.nilCheck (Operand.tmp 47), type := 0, pos := "word.go:114", after := #[{ on := 0, ground := Ground.data }, { on := 0, ground := Ground.phase }, { on := 1, ground := Ground.phase }, { on := 2, ground := Ground.phase }, { on := 3, ground := Ground.phase }, { on := 4, ground := Ground.phase }, { on := 5, ground := Ground.phase }, { on := 6, ground := Ground.phase }], guard := none }) (v := ?_) rfl (by kernel_rfl) (by kernel_rfl) (by kernel_rfl) (fun _ _ _ h => h) (Or.inl ⟨by kernel_rfl, ?_⟩) trivial ?_
            rotate_left 1
            · (intro w0 _; go_simp; (try with_reducible rfl))
            simp only [Act.put, List.setIfInBounds_toArray, List.set_cons_zero, List.set_cons_succ]
            refine wpAnyH_take (i := 8) (oi := { dst := some 55, op := Op.fieldAddr 33 (Operand.tmp 54) 0, type := 0, pos := "word.go:114", after := #[{ on := 7, ground := Ground.data }, { on := 0, ground := Ground.phase }, { on := 1, ground := Ground.phase }, { on := 2, ground := Ground.phase }, { on := 3, ground := Ground.phase }, { on := 4, ground := Ground.phase }, { on := 5, ground := Ground.phase }, { on := 6, ground := Ground.phase }], guard := none }) (v := ?_) rfl (by kernel_rfl) (by kernel_rfl) (by kernel_rfl) (fun _ _ _ h => h) (Or.inl ⟨by kernel_rfl, ?_⟩) trivial ?_
            rotate_left 1
            · (intro w0 _; go_simp; (try with_reducible rfl))
            simp only [Act.put, List.setIfInBounds_toArray, List.set_cons_zero, List.set_cons_succ]
            refine wpAnyH_ready (rs := [9]) (by kernel_rfl) (by simp) ?_
            refine (AllReadyH.cons (o := { dst := none, op := Op.store 9 (Operand.tmp 55) (Operand.tmp 53), type := 0, pos := "word.go:114", after := #[{ on := 8, ground := Ground.data }, { on := 6, ground := Ground.data }, { on := 0, ground := Ground.phase }, { on := 1, ground := Ground.phase }, { on := 2, ground := Ground.phase }, { on := 3, ground := Ground.phase }, { on := 4, ground := Ground.phase }, { on := 5, ground := Ground.phase }, { on := 6, ground := Ground.phase }], guard := none }) rfl (fun K hK => ?_) AllReadyH.nil)
            go_simp
            refine hK.out _ _ trivial (fun _ => ?_)
            clear hK K
            refine wpAnyH_done (by kernel_rfl) ?_ _
            simp only [onlyN, Exit.then]
            have M7 := (M5.text (wd.text ++ tx)).drew
            have K7 := (K5.set g (ini.length * 3) M5.base.1 (.string (mkB (wd.text ++ tx)))).drew
            rw [← mkB_app, ← HB1.out, ← HB2.out, ← HK.out] at M7 K7
            obtain ⟨W7, hW7⟩ : ∃ W7, (W5.setCell ⟨g, k * 3, none⟩ (.string (b1 ++ b2))).drew = W7 := ⟨_, rfl⟩
            rw [hW7] at M7 K7 ⊢
            clear hW7 M5 K5 c05 y05 f05 cF5
            gi_wp2
            refine ⟨by first | exact K7.1 | (have h1 := K7.1; rw [hsz] at h1; exact h1), K7.2, ?_⟩
            show IWs w (runS t (pre ++ [x])) _
            rw [HS.out]
            exact M7.done
      · obtain ⟨ini, wd, hws, hw32⟩ := good_split hgood hi
        dsimp only at hws
        subst hws
        subst hi
        rw [step_more htx] at hsn
        obtain ⟨g, cap, rfl, hg1, hg2, ⟨cs, hgc⟩, c0, c1, c2⟩ := OwnW.split ⟨hrow, hnil⟩
        have n4 : g ≠ Bx := fun e => hv2 (by rw [e]; rfl)
        have hl1 : (ini ++ [wd]).length = ini.length + 1 := by simp
        rw [hl1] at hrow hlen
        have M0 : Mid w ini wd full g cap Bx (mkB tx) xb W := ⟨bV1, hrow, bI1, bF1, y0, y2, n4, hx1, hB1, hz⟩
        have K0 := KK.refl W0.heap.size w.heap.size W
        obtain ⟨k, hk⟩ : ∃ k, k = ini.length := ⟨_, rfl⟩
        have hkl : k + 1 ≤ 1000000 := by omega
        have HK := Lib.hid hk
        rw [← hk] at cV
        have hm1 : IntKind.i64.wrap ((k : Int) + 1 - 1) = (k : Int) := by rw [IntWalk.i64_in _ (by omega)]; omega
        have c2' := M0.c2
        rw [← hk] at c2'
        have f2' := M0.fz (k * 3 + 2)
        have y0' := M0.y0
        have y2' := M0.y2
        have hte := M0.n1
        have hb30 := M0.n3
        have hb40 := M0.ne
        clear hs hsg hgood hgI hgc c0 c1 c2 hrow hnil bV1 hv1 hv2 bI1 bF1 hxc hk y0 y1 y2 hl1 hlen
        cases full
        · obtain ⟨b1, hb1⟩ : ∃ b, b = mkB wd.text := ⟨_, rfl⟩
          obtain ⟨b2, hb2⟩ : ∃ b, b = mkB tx := ⟨_, rfl⟩
          have hz1' : b1.size = wd.text.length := by rw [hb1, mkB_size]
          have hz2' : b2.size = tx.length := by rw [hb2, mkB_size]
          have hwS : IntKind.i64.wrap ((b1.size : Int) + (b2.size : Int)) = (b1.size : Int) + (b2.size : Int) := IntWalk.i64_in _ (by omega)
          have HB1 := Lib.hid hb1
          have HB2 := Lib.hid hb2
          clear hb1 hb2
          by_cases hc : 32 < wd.text.length + tx.length
          · have hcI : (32 : Int) < (b1.size : Int) + (b2.size : Int) := by omega
            have HS := Lib.hid (show runS t (pre ++ [x]) = (ini ++ [⟨wd.text, wd.a, xb⟩], true, true) by rw [hsn]; unfold grownW cutB; simp [hc])
            clear hsn hz1' hz2' hc hw32 hg4
            gi_upto_region 12 with fail
            have M3 := M0.to xb
            have K3 := K0.set g (ini.length * 3 + 2) M0.base.1 (.int .i64 (xb : Nat))
            rw [← HK.out] at M3 K3
            obtain ⟨W3, hW3⟩ : ∃ W3, W.setCell ⟨g, k * 3 + 2, none⟩ (.int .i64 (xb : Nat)) = W3 := ⟨_, rfl⟩
            rw [hW3] at M3 K3 ⊢
            clear hW3 M0 K0 cV c2' f2' cI fI cF fF y0' y2' hm1
            have cF3 := M3.bF.cell
            have fF3 := M3.bF.frozen
            have c03 := M3.c0
            rw [← HK.out] at c03
            dsimp only at c03
            have y03 := M3.y0
            rw [← HB1.out] at c03
            rw [← HB2.out] at y03
            refine region_round (S := fun _ => True) hmx (by kernel_rfl) ?_
            simp only [List.size_toArray, List.length_cons, List.length_nil, Nat.reduceAdd, Array.replicate_succ, Array.replicate_zero]
            refine wpAnyH_ready (rs := [0]) (by kernel_rfl) (by simp) ?_
            refine (AllReadyH.cons (o := { dst := some 32, op := Op.load 4 (Operand.tmp 5), type := 4, pos := "word.go:113", after := #[], guard := none }) rfl (fun K hK => ?_) AllReadyH.nil)
            go_simp
            refine hK.out _ _ trivial (fun _ => ?_)
            clear hK K
            refine wpAnyH_take (i := 1) (oi := { dst := some 33, op := Op.move (Operand.tmp 32), type := 4, pos := "word.go:113", after := #[{ on := 0, ground := Ground.data }], guard := none }) (v := ?_) rfl (by kernel_rfl) (by kernel_rfl) (by kernel_rfl) (fun _ _ _ h => h) (Or.inl ⟨by kernel_rfl, ?_⟩) trivial ?_
            rotate_left 1
            · (intro w0 _; go_simp; (try with_reducible rfl))
            simp only [Act.put, List.setIfInBounds_toArray, List.set_cons_zero, List.set_cons_succ]
            refine wpAnyH_take (i := 2) (oi := { dst := some 34, op := Op.move (Operand.tmp 7), type := 44, pos := "word.go:113", after := #[{ on := 1, ground := Ground.guard }], guard := some (1, false) }) (v := ?_) rfl (by kernel_rfl) (by kernel_rfl) (by kernel_rfl) (fun _ _ _ h => h) (Or.inl ⟨by kernel_rfl, ?_⟩) trivial ?_
            rotate_left 1
            · (intro w0 _; go_simp; (try with_reducible rfl))
            simp only [Act.put, List.setIfInBounds_toArray, List.set_cons_zero, List.set_cons_succ]
            refine wpAnyH_take (i := 7) (oi := { dst := some 39, op := Op.fieldAddr 33 (Operand.tmp 6) 0, type := 0, pos := "word.go:113", after := #[{ on := 1, ground := Ground.guard }], guard := some (1, false) }) (v := ?_) rfl (by kernel_rfl) (by kernel_rfl) (by kernel_rfl) (fun _ _ _ h => h) (Or.inl ⟨by kernel_rfl, ?_⟩) trivial ?_
            rotate_left 1
            · (intro w0 _; go_simp; (try with_reducible rfl))
            simp only [Act.put, List.setIfInBounds_toArray, List.set_cons_zero, List.set_cons_succ]
            refine wpAnyH_take (i := 3) (oi := { dst := some 35, op := Op.nilCheck (Operand.tmp 34), type := 0, pos := "word.go:113", after := #[{ on := 2, ground := Ground.data }, { on := 1, ground := Ground.guard }], guard := some (1, false) }) (v := ?_) rfl (by kernel_rfl) (by kernel_rfl) (by kernel_rfl) (fun _ _ _ h => h) (Or.inl ⟨by kernel_rfl, ?_⟩) trivial ?_
            rotate_left 1
            · (intro w0 _; go_simp; (try with_reducible rfl))
            simp only [Act.put, List.setIfInBounds_toArray, List.set_cons_zero, List.set_cons_succ]
            refine wpAnyH_take (i := 4) (oi := { dst := some 36, op := Op.fieldAddr 33 (Operand.tmp 35) 0, type := 0, pos := "word.go:113", after := #[{ on := 3, ground := Ground.data }, { on := 1, ground := Ground.guard }], guard := some (1, false) }) (v := ?_) rfl (by kernel_rfl) (by kernel_rfl) (by kernel_rfl) (fun _ _ _ h => h) (Or.inl ⟨by kernel_rfl, ?_⟩) trivial ?_
            rotate_left 1
            · (intro w0 _; go_simp; (try with_reducible rfl))
            simp only [Act.put, List.setIfInBounds_toArray, List.set_cons_zero, List.set_cons_succ]
            refine wpAnyH_ready (rs := [5, 8]) (by kernel_rfl) (by simp) ?_
            refine (AllReadyH.cons (o := { dst := some 37, op := Op.load 9 (Operand.tmp 36), type := 9, pos := "word.go:113", after := #[{ on := 4, ground := Ground.data }, { on := 1, ground := Ground.guard }], guard := some (1, false) }) rfl (fun K hK => ?_) (AllReadyH.cons (o := { dst := some 40, op := Op.load 9 (Operand.tmp 39), type := 9, pos := "word.go:113", after := #[{ on := 7, ground := Ground.data }, { on := 1, ground := Ground.guard }], guard := some (1, false) }) rfl (fun K hK => ?_) AllReadyH.nil))
            · go_simp
              refine hK.out _ _ trivial (fun _ => ?_)
              clear hK K
              refine wpAnyH_take (i := 6) (oi := { dst := some 38, op := Op.call { callee := Callee.builtin Builtin.len, args := #[Operand.tmp 37], argTypes := #[9] }, type := 3, pos := "word.go:113", after := #[{ on := 5, ground := Ground.data }, { on := 1, ground := Ground.guard }], guard := some (1, false) }) (v := ?_) rfl (by kernel_rfl) (by kernel_rfl) (by kernel_rfl) (fun _ _ _ h => h) (Or.inl ⟨by kernel_rfl, ?_⟩) trivial ?_
              rotate_left 1
              · (intro w0 _; go_simp; (try with_reducible rfl))
              simp only [Act.put, List.setIfInBounds_toArray, List.set_cons_zero, List.set_cons_succ]
              refine wpAnyH_ready (rs := [8]) (by kernel_rfl) (by simp) ?_
              refine (AllReadyH.cons (o := { dst := some 40, op := Op.load 9 (Operand.tmp 39), type := 9, pos := "word.go:113", after := #[{ on := 7, ground := Ground.data }, { on := 1, ground := Ground.guard }], guard := some (1, false) }) rfl (fun K hK => ?_) AllReadyH.nil)
              go_simp
              refine hK.out _ _ trivial (fun _ => ?_)
              clear hK K
              refine wpAnyH_take (i := 9) (oi := { dst := some 41, op := Op.call { callee := Callee.builtin Builtin.len, args := #[Operand.tmp 40], argTypes := #[9] }, type := 3, pos := "word.go:113", after := #[{ on := 8, ground := Ground.data }, { on := 1, ground := Ground.guard }], guard := some (1, false) }) (v := ?_) rfl (by kernel_rfl) (by kernel_rfl) (by kernel_rfl) (fun _ _ _ h => h) (Or.inl ⟨by kernel_rfl, ?_⟩) trivial ?_
              rotate_left 1
              · (intro w0 _; go_simp; (try with_reducible rfl))
              simp only [Act.put, List.setIfInBounds_toArray, List.set_cons_zero, List.set_cons_succ]
              refine wpAnyH_take (i := 10) (oi := { dst := some 42, op := Op.binOp BinOp.add 3 (Operand.tmp 38) (Operand.tmp 41) 3, type := 3, pos := "word.go:113", after := #[{ on := 6, ground := Ground.data }, { on := 9, ground := Ground.data }, { on := 1, ground := Ground.guard }], guard := some (1, false) }) (v := ?_) rfl (by kernel_rfl) (by kernel_rfl) (by kernel_rfl) (fun _ _ _ h => h) (Or.inl ⟨by kernel_rfl, ?_⟩) trivial ?_
              rotate_left 1
              · (intro w0 _; go_simp; (try with_reducible rfl))
              simp only [Act.put, List.setIfInBounds_toArray, List.set_cons_zero, List.set_cons_succ]
              refine wpAnyH_take (i := 11) (oi := { dst := some 43, op := Op.binOp BinOp.gtr 3 (Operand.tmp 42) (Operand.const (Value.int IntKind.i64 32)) 3, type := 4, pos := "word.go:113", after := #[{ on := 10, ground := Ground.data }, { on := 1, ground := Ground.guard }], guard := some (1, false) }) (v := ?_) rfl (by kernel_rfl) (by kernel_rfl) (by kernel_rfl) (fun _ _ _ h => h) (Or.inl ⟨by kernel_rfl, ?_⟩) trivial ?_
              rotate_left 1
              · (intro w0 _; go_simp; (try with_reducible rfl))
              simp only [Act.put, List.setIfInBounds_toArray, List.set_cons_zero, List.set_cons_succ]
              refine wpAnyH_take (i := 12) (oi := { dst := some 44, op := Op.pick (Operand.tmp 33) (Operand.const (Value.bool true)) (Operand.tmp 43), type := 4, pos := "word.go:113", after := #[{ on := 1, ground := Ground.data }, { on := 11, ground := Ground.data }], guard := none }) (v := ?_) rfl (by kernel_rfl) (by kernel_rfl) (by kernel_rfl) (fun _ _ _ h => h) (Or.inl ⟨by kernel_rfl, ?_⟩) trivial ?_
              rotate_left 1
              · (intro w0 _; go_simp; (try with_reducible rfl))
              simp only [Act.put, List.setIfInBounds_toArray, List.set_cons_zero, List.set_cons_succ]
              refine wpAnyH_ready (rs := [13]) (by kernel_rfl) (by simp) ?_
              refine (AllReadyH.cons (o := { dst := none, op := Op.store 4 (Operand.tmp 5) (Operand.tmp 44), type := 0, pos := "word.go:113", after := #[{ on := 12, ground := Ground.data }, { on := 1, ground := Ground.chain }, { on := 0, ground := Ground.phase }, { on := 1, ground := Ground.phase }, { on := 2, ground := Ground.phase }, { on := 3, ground := Ground.phase }, { on := 4, ground := Ground.phase }, { on := 5, ground := Ground.phase }, { on := 6, ground := Ground.phase }, { on := 7, ground := Ground.phase }, { on := 8, ground := Ground.phase }, { on := 9, ground := Ground.phase }, { on := 10, ground := Ground.phase }, { on := 11, ground := Ground.phase }, { on := 12, ground := Ground.phase }], guard := none }) rfl (fun K hK => ?_) AllReadyH.nil)
              go_simp
              refine hK.out _ _ trivial (fun _ => ?_)
              clear hK K
              refine wpAnyH_done (by kernel_rfl) ?_ _
              simp only [onlyN, Exit.then]
              have M5 := (M3.setFull true).drew
              have K5 := (K3.set (w.heap.size + 1 + 1) 0 (by omega) (.bool true)).drew
              obtain ⟨W5, hW5⟩ : ∃ W5, (W3.setCell ⟨w.heap.size + 1 + 1, 0, none⟩ (.bool true)).drew = W5 := ⟨_, rfl⟩
              rw [hW5] at M5 K5 ⊢
              clear hW5 M3 K3 cF3 fF3 c03 y03
              have cF5 := M5.bF.cell
              gi_wp2
              refine ⟨by first | exact K5.1 | (have h1 := K5.1; rw [hsz] at h1; exact h1), K5.2, ?_⟩
              show IWs w (runS t (pre ++ [x])) _
              rw [HS.out]
              exact M5.done
            · go_simp
              refine hK.out _ _ trivial (fun _ => ?_)
              clear hK K
              refine wpAnyH_take (i := 9) (oi := { dst := some 41, op := Op.call { callee := Callee.builtin Builtin.len, args := #[Operand.tmp 40], argTypes := #[9] }, type := 3, pos := "word.go:113", after := #[{ on := 8, ground := Ground.data }, { on := 1, ground := Ground.guard }], guard := some (1, false) }) (v := ?_) rfl (by kernel_rfl) (by kernel_rfl) (by kernel_rfl) (fun _ _ _ h => h) (Or.inl ⟨by kernel_rfl, ?_⟩) trivial ?_
              rotate_left 1
              · (intro w0 _; go_simp; (try with_reducible rfl))
              simp only [Act.put, List.setIfInBounds_toArray, List.set_cons_zero, List.set_cons_succ]
              refine wpAnyH_ready (rs := [5]) (by kernel_rfl) (by simp) ?_
              refine (AllReadyH.cons (o := { dst := some 37, op := Op.load 9 (Operand.tmp 36), type := 9, pos := "word.go:113", after := #[{ on := 4, ground := Ground.data }, { on := 1, ground := Ground.guard }], guard := some (1, false) }) rfl (fun K hK => ?_) AllReadyH.nil)
              go_simp
              refine hK.out _ _ trivial (fun _ => ?_)
              clear hK K
              refine wpAnyH_take (i := 6) (oi := { dst := some 38, op := Op.call { callee := Callee.builtin Builtin.len, args := #[Operand.tmp 37], argTypes := #[9] }, type := 3, pos := "word.go:113", after := #[{ on := 5, ground := Ground.data }, { on := 1, ground := Ground.guard }], guard := some (1, false) }) (v := ?_) rfl (by kernel_rfl) (by kernel_rfl) (by kernel_rfl) (fun _ _ _ h => h) (Or.inl ⟨by kernel_rfl, ?_⟩) trivial ?_
              rotate_left 1
              · (intro w0 _; go_simp; (try with_reducible rfl))
              simp only [Act.put, List.setIfInBounds_toArray, List.set_cons_zero, List.set_cons_succ]
              refine wpAnyH_take (i := 10) (oi := { dst := some 42, op := Op.binOp BinOp.add 3 (Operand.tmp 38) (Operand.tmp 41) 3, type := 3, pos := "word.go:113", after := #[{ on := 6, ground := Ground.data }, { on := 9, ground := Ground.data }, { on := 1, ground := Ground.guard }], guard := some (1, false) }) (v := ?_) rfl (by kernel_rfl) (by kernel_rfl) (by kernel_rfl) (fun _ _ _ h => h) (Or.inl ⟨by kernel_rfl, ?_⟩) trivial ?_
              rotate_left 1
              · (intro w0 _; go_simp; (try with_reducible rfl))
              simp only [Act.put, List.setIfInBounds_toArray, List.set_cons_zero, List.set_cons_succ]
              refine wpAnyH_take (i := 11) (oi := { dst := some 43, op := Op.binOp BinOp.gtr 3 (Operand.tmp 42) (Operand.const (Value.int IntKind.i64 32)) 3, type := 4, pos := "word.go:113", after := #[{ on := 10, ground := Ground.data }, { on := 1, ground := Ground.guard }], guard := some (1, false) }) (v := ?_) rfl (by kernel_rfl) (by kernel_rfl) (by kernel_rfl) (fun _ _ _ h => h) (Or.inl ⟨by kernel_rfl, ?_⟩) trivial ?_
              rotate_left 1
              · (intro w0 _; go_simp; (try with_reducible rfl))
              simp only [Act.put, List.setIfInBounds_toArray, List.set_cons_zero, List.set_cons_succ]
              refine wpAnyH_take (i := 12) (oi := { dst := some 44, op := Op.pick (Operand.tmp 33) (Operand.const (Value.bool true)) (Operand.tmp 43), type := 4, pos := "word.go:113", after := #[{ on := 1, ground := Ground.data }, { on := 11, ground := Ground.data }], guard := none }) (v := ?_) rfl (by kernel_rfl) (by kernel_rfl) (by kernel_rfl) (fun _ _ _ h => h) (Or.inl ⟨by kernel_rfl, ?_⟩) trivial ?_
              rotate_left 1
              · (intro w0 _; go_simp; (try with_reducible rfl))
              simp only [Act.put, List.setIfInBounds_toArray, List.set_cons_zero, List.set_cons_succ]
              refine wpAnyH_ready (rs := [13]) (by kernel_rfl) (by simp) ?_
              refine (AllReadyH.cons (o := { dst := none, op := Op.store 4 (Operand.tmp 5) (Operand.tmp 44), type := 0, pos := "word.go:113", after := #[{ on := 12, ground := Ground.data }, { on := 1, ground := Ground.chain }, { on := 0, ground := Ground.phase }, { on := 1, ground := Ground.phase }, { on := 2, ground := Ground.phase }, { on := 3, ground := Ground.phase }, { on := 4, ground := Ground.phase }, { on := 5, ground := Ground.phase }, { on := 6, ground := Ground.phase }, { on := 7, ground := Ground.phase }, { on := 8, ground := Ground.phase }, { on := 9, ground := Ground.phase }, { on := 10, ground := Ground.phase }, { on := 11, ground := Ground.phase }, { on := 12, ground := Ground.phase }], guard := none }) rfl (fun K hK => ?_) AllReadyH.nil)
              go_simp
              refine hK.out _ _ trivial (fun _ => ?_)
              clear hK K
              refine wpAnyH_done (by kernel_rfl) ?_ _
              simp only [onlyN, Exit.then]
              have M5 := (M3.setFull true).drew
              have K5 := (K3.set (w.heap.size + 1 + 1) 0 (by omega) (.bool true)).drew
              obtain ⟨W5, hW5⟩ : ∃ W5, (W3.setCell ⟨w.heap.size + 1 + 1, 0, none⟩ (.bool true)).drew = W5 := ⟨_, rfl⟩
              rw [hW5] at M5 K5 ⊢
              clear hW5 M3 K3 cF3 fF3 c03 y03
              have cF5 := M5.bF.cell
              gi_wp2
              refine ⟨by first | exact K5.1 | (have h1 := K5.1; rw [hsz] at h1; exact h1), K5.2, ?_⟩
              show IWs w (runS t (pre ++ [x])) _
              rw [HS.out]
              exact M5.done
          · have hcI : ¬ (32 : Int) < (b1.size : Int) + (b2.size : Int) := by omega
            have HS := Lib.hid (show runS t (pre ++ [x]) = (ini ++ [⟨wd.text ++ tx, wd.a, xb⟩], true, false) by rw [hsn]; unfold grownW cutB; simp [hc])
            have hcat : ¬ 9223372036854775807 < b1.size + b2.size := by omega
            clear hsn hz1' hz2' hc hw32 hg4
            gi_upto_region 12 with fail
            have M3 := M0.to xb
            have K3 := K0.set g (ini.length * 3 + 2) M0.base.1 (.int .i64 (xb : Nat))
            rw [← HK.out] at M3 K3
            obtain ⟨W3, hW3⟩ : ∃ W3, W.setCell ⟨g, k * 3 + 2, none⟩ (.int .i64 (xb : Nat)) = W3 := ⟨_, rfl⟩
            rw [hW3] at M3 K3 ⊢
            clear hW3 M0 K0 cV c2' f2' cI fI cF fF y0' y2' hm1
            have cF3 := M3.bF.cell
            have fF3 := M3.bF.frozen
            have c03 := M3.c0
            rw [← HK.out] at c03
            dsimp only at c03
            have y03 := M3.y0
            rw [← HB1.out] at c03
            rw [← HB2.out] at y03
            refine region_round (S := fun _ => True) hmx (by kernel_rfl) ?_
            simp only [List.size_toArray, List.length_cons, List.length_nil, Nat.reduceAdd, Array.replicate_succ, Array.replicate_zero]
            refine wpAnyH_ready (rs := [0]) (by kernel_rfl) (by simp) ?_
            refine (AllReadyH.cons (o := { dst := some 32, op := Op.load 4 (Operand.tmp 5), type := 4, pos := "word.go:113", after := #[], guard := none }) rfl (fun K hK => ?_) AllReadyH.nil)
            go_simp
            refine hK.out _ _ trivial (fun _ => ?_)
            clear hK K
            refine wpAnyH_take (i := 1) (oi := { dst := some 33, op := Op.move (Operand.tmp 32), type := 4, pos := "word.go:113", after := #[{ on := 0, ground := Ground.data }], guard := none }) (v := ?_) rfl (by kernel_rfl) (by kernel_rfl) (by kernel_rfl) (fun _ _ _ h => h) (Or.inl ⟨by kernel_rfl, ?_⟩) trivial ?_
            rotate_left 1
            · (intro w0 _; go_simp; (try with_reducible rfl))
            simp only [Act.put, List.setIfInBounds_toArray, List.set_cons_zero, List.set_cons_succ]
            refine wpAnyH_take (i := 2) (oi := { dst := some 34, op := Op.move (Operand.tmp 7), type := 44, pos := "word.go:113", after := #[{ on := 1, ground := Ground.guard }], guard := some (1, false) }) (v := ?_) rfl (by kernel_rfl) (by kernel_rfl) (by kernel_rfl) (fun _ _ _ h => h) (Or.inl ⟨by kernel_rfl, ?_⟩) trivial ?_
            rotate_left 1
            · (intro w0 _; go_simp; (try with_reducible rfl))
            simp only [Act.put, List.setIfInBounds_toArray, List.set_cons_zero, List.set_cons_succ]
            refine wpAnyH_take (i := 7) (oi := { dst := some 39, op := Op.fieldAddr 33 (Operand.tmp 6) 0, type := 0, pos := "word.go:113", after := #[{ on := 1, ground := Ground.guard }], guard := some (1, false) }) (v := ?_) rfl (by kernel_rfl) (by kernel_rfl) (by kernel_rfl) (fun _ _ _ h => h) (Or.inl ⟨by kernel_rfl, ?_⟩) trivial ?_
            rotate_left 1
            · (intro w0 _; go_simp; (try with_reducible rfl))
            simp only [Act.put, List.setIfInBounds_toArray, List.set_cons_zero, List.set_cons_succ]
            refine wpAnyH_take (i := 3) (oi := { dst := some 35, op := Op.nilCheck (Operand.tmp 34), type := 0, pos := "word.go:113", after := #[{ on := 2, ground := Ground.data }, { on := 1, ground := Ground.guard }], guard := some (1, false) }) (v := ?_) rfl (by kernel_rfl) (by kernel_rfl) (by kernel_rfl) (fun _ _ _ h => h) (Or.inl ⟨by kernel_rfl, ?_⟩) trivial ?_
            rotate_left 1
            · (intro w0 _; go_simp; (try with_reducible rfl))
            simp only [Act.put, List.setIfInBounds_toArray, List.set_cons_zero, List.set_cons_succ]
            refine wpAnyH_take (i := 4) (oi := { dst := some 36, op := Op.fieldAddr 33 (Operand.tmp 35) 0, type := 0, pos := "word.go:113", after := #[{ on := 3, ground := Ground.data }, { on := 1, ground := Ground.guard }], guard := some (1, false) }) (v := ?_) rfl (by kernel_rfl) (by kernel_rfl) (by kernel_rfl) (fun _ _ _ h => h) (Or.inl ⟨by kernel_rfl, ?_⟩) trivial ?_
            rotate_left 1
            · (intro w0 _; go_simp; (try with_reducible rfl))
            simp only [Act.put, List.setIfInBounds_toArray, List.set_cons_zero, List.set_cons_succ]
            refine wpAnyH_ready (rs := [5, 8]) (by kernel_rfl) (by simp) ?_
            refine (AllReadyH.cons (o := { dst := some 37, op := Op.load 9 (Operand.tmp 36), type := 9, pos := "word.go:113", after := #[{ on := 4, ground := Ground.data }, { on := 1, ground := Ground.guard }], guard := some (1, false) }) rfl (fun K hK => ?_) (AllReadyH.cons (o := { dst := some 40, op := Op.load 9 (Operand.tmp 39), type := 9, pos := "word.go:113", after := #[{ on := 7, ground := Ground.data }, { on := 1, ground := Ground.guard }], guard := some (1, false) }) rfl (fun K hK => ?_) AllReadyH.nil))
            · go_simp
              refine hK.out _ _ trivial (fun _ => ?_)
              clear hK K
              refine wpAnyH_take (i := 6) (oi := { dst := some 38, op := Op.call { callee := Callee.builtin Builtin.len, args := #[Operand.tmp 37], argTypes := #[9] }, type := 3, pos := "word.go:113", after := #[{ on := 5, ground := Ground.data }, { on := 1, ground := Ground.guard }], guard := some (1, false) }) (v := ?_) rfl (by kernel_rfl) (by kernel_rfl) (by kernel_rfl) (fun _ _ _ h => h) (Or.inl ⟨by kernel_rfl, ?_⟩) trivial ?_
              rotate_left 1
              · (intro w0 _; go_simp; (try with_reducible rfl))
              simp only [Act.put, List.setIfInBounds_toArray, List.set_cons_zero, List.set_cons_succ]
              refine wpAnyH_ready (rs := [8]) (by kernel_rfl) (by simp) ?_
              refine (AllReadyH.cons (o := { dst := some 40, op := Op.load 9 (Operand.tmp 39), type := 9, pos := "word.go:113", after := #[{ on := 7, ground := Ground.data }, { on := 1, ground := Ground.guard }], guard := some (1, false) }) rfl (fun K hK => ?_) AllReadyH.nil)
              go_simp
              refine hK.out _ _ trivial (fun _ => ?_)
              clear hK K
              refine wpAnyH_take (i := 9) (oi := { dst := some 41, op := Op.call { callee := Callee.builtin Builtin.len, args := #[Operand.tmp 40], argTypes := #[9] }, type := 3, pos := "word.go:113", after := #[{ on := 8, ground := Ground.data }, { on := 1, ground := Ground.guard }], guard := some (1, false) }) (v := ?_) rfl (by kernel_rfl) (by kernel_rfl) (by kernel_rfl) (fun _ _ _ h => h) (Or.inl ⟨by kernel_rfl, ?_⟩) trivial ?_
              rotate_left 1
              · (intro w0 _; go_simp; (try with_reducible rfl))
              simp only [Act.put, List.setIfInBounds_toArray, List.set_cons_zero, List.set_cons_succ]
              refine wpAnyH_take (i := 10) (oi := { dst := some 42, op := Op.binOp BinOp.add 3 (Operand.tmp 38) (Operand.tmp 41) 3, type := 3, pos := "word.go:113", after := #[{ on := 6, ground := Ground.data }, { on := 9, ground := Ground.data }, { on := 1, ground := Ground.guard }], guard := some (1, false) }) (v := ?_) rfl (by kernel_rfl) (by kernel_rfl) (by kernel_rfl) (fun _ _ _ h => h) (Or.inl ⟨by kernel_rfl, ?_⟩) trivial ?_
              rotate_left 1
              · (intro w0 _; go_simp; (try with_reducible rfl))
              simp only [Act.put, List.setIfInBounds_toArray, List.set_cons_zero, List.set_cons_succ]
              refine wpAnyH_take (i := 11) (oi := { dst := some 43, op := Op.binOp BinOp.gtr 3 (Operand.tmp 42) (Operand.const (Value.int IntKind.i64 32)) 3, type := 4, pos := "word.go:113", after := #[{ on := 10, ground := Ground.data }, { on := 1, ground := Ground.guard }], guard := some (1, false) }) (v := ?_) rfl (by kernel_rfl) (by kernel_rfl) (by kernel_rfl) (fun _ _ _ h => h) (Or.inl ⟨by kernel_rfl, ?_⟩) trivial ?_
              rotate_left 1
              · (intro w0 _; go_simp; (try with_reducible rfl))
              simp only [Act.put, List.setIfInBounds_toArray, List.set_cons_zero, List.set_cons_succ]
              refine wpAnyH_take (i := 12) (oi := { dst := some 44, op := Op.pick (Operand.tmp 33) (Operand.const (Value.bool true)) (Operand.tmp 43), type := 4, pos := "word.go:113", after := #[{ on := 1, ground := Ground.data }, { on := 11, ground := Ground.data }], guard := none }) (v := ?_) rfl (by kernel_rfl) (by kernel_rfl) (by kernel_rfl) (fun _ _ _ h => h) (Or.inl ⟨by kernel_rfl, ?_⟩) trivial ?_
              rotate_left 1
              · (intro w0 _; go_simp; (try with_reducible rfl))
              simp only [Act.put, List.setIfInBounds_toArray, List.set_cons_zero, List.set_cons_succ]
              refine wpAnyH_ready (rs := [13]) (by kernel_rfl) (by simp) ?_
              refine (AllReadyH.cons (o := { dst := none, op := Op.store 4 (Operand.tmp 5) (Operand.tmp 44), type := 0, pos := "word.go:113", after := #[{ on := 12, ground := Ground.data }, { on := 1, ground := Ground.chain }, { on := 0, ground := Ground.phase }, { on := 1, ground := Ground.phase }, { on := 2, ground := Ground.phase }, { on := 3, ground := Ground.phase }, { on := 4, ground := Ground.phase }, { on := 5, ground := Ground.phase }, { on := 6, ground := Ground.phase }, { on := 7, ground := Ground.phase }, { on := 8, ground := Ground.phase }, { on := 9, ground := Ground.phase }, { on := 10, ground := Ground.phase }, { on := 11, ground := Ground.phase }, { on := 12, ground := Ground.phase }], guard := none }) rfl (fun K hK => ?_) AllReadyH.nil)
              go_simp
              refine hK.out _ _ trivial (fun _ => ?_)
              clear hK K
              refine wpAnyH_done (by kernel_rfl) ?_ _
              simp only [onlyN, Exit.then]
              have M5 := (M3.setFull false).drew
              have K5 := (K3.set (w.heap.size + 1 + 1) 0 (by omega) (.bool false)).drew
              obtain ⟨W5, hW5⟩ : ∃ W5, (W3.setCell ⟨w.heap.size + 1 + 1, 0, none⟩ (.bool false)).drew = W5 := ⟨_, rfl⟩
              rw [hW5] at M5 K5 ⊢
              clear hW5 M3 K3 cF3 fF3 c03 y03
              have cF5 := M5.bF.cell
              have c05 := M5.c0
              rw [← HK.out] at c05
              dsimp only at c05
              have y05 := M5.y0
              have f05 := M5.fz (k * 3)
              rw [← HB1.out] at c05
              rw [← HB2.out] at y05
              gi_upto_region 14 with fail
              refine region_round (S := fun _ => True) hmx (by kernel_rfl) ?_
              simp only [List.size_toArray, List.length_cons, List.length_nil, Nat.reduceAdd, Array.replicate_succ, Array.replicate_zero]
              refine wpAnyH_take (i := 0) (oi := { dst := some 47, op := Op.move (Operand.tmp 7), type := 44, pos := "word.go:114", after := #[], guard := none }) (v := ?_) rfl (by kernel_rfl) (by kernel_rfl) (by kernel_rfl) (fun _ _ _ h => h) (Or.inl ⟨by kernel_rfl, ?_⟩) trivial ?_
              rotate_left 1
              · (intro w0 _; go_simp; (try with_reducible rfl))
              simp only [Act.put, List.setIfInBounds_toArray, List.set_cons_zero, List.set_cons_succ]
              refine wpAnyH_take (i := 4) (oi := { dst := some 51, op := Op.fieldAddr 33 (Operand.tmp 6) 0, type := 0, pos := "word.go:114", after := #[], guard := none }) (v := ?_) rfl (by kernel_rfl) (by kernel_rfl) (by kernel_rfl) (fun _ _ _ h => h) (Or.inl ⟨by kernel_rfl, ?_⟩) trivial ?_
              rotate_left 1
              · (intro w0 _; go_simp; (try with_reducible rfl))
              simp only [Act.put, List.setIfInBounds_toArray, List.set_cons_zero, List.set_cons_succ]
              refine wpAnyH_take (i := 1) (oi := { dst := some 48, op := Op.nilCheck (Operand.tmp 47), type := 0, pos := "word.go:114", after := #[{ on := 0, ground := Ground.data }], guard := none }) (v := ?_) rfl (by kernel_rfl) (by kernel_rfl) (by kernel_rfl) (fun _ _ _ h => h) (Or.inl ⟨by kernel_rfl, ?_⟩) trivial ?_
              rotate_left 1
              · (intro w0 _; go_simp; (try with_reducible rfl))
              simp only [Act.put, List.setIfInBounds_toArray, List.set_cons_zero, List.set_cons_succ]
              refine wpAnyH_take (i := 2) (oi := { dst := some 49, op := Op.fieldAddr 33 (Operand.tmp 48) 0, type := 0, pos := "word.go:114", after := #[{ on := 1, ground := Ground.data }], guard := none }) (v := ?_) rfl (by kernel_rfl) (by kernel_rfl) (by kernel_rfl) (fun _ _ _ h => h) (Or.inl ⟨by kernel_rfl, ?_⟩) trivial ?_
              rotate_left 1
              · (intro w0 _; go_simp; (try with_reducible rfl))
              simp only [Act.put, List.setIfInBounds_toArray, List.set_cons_zero, List.set_cons_succ]
              refine wpAnyH_ready (rs := [3, 5]) (by kernel_rfl) (by simp) ?_
              refine (AllReadyH.cons (o := { dst := some 50, op := Op.load 9 (Operand.tmp 49), type := 9, pos := "word.go:114", after := #[{ on := 2, ground := Ground.data }], guard := none }) rfl (fun K hK => ?_) (AllReadyH.cons (o := { dst := some 52, op := Op.load 9 (Operand.tmp 51), type := 9, pos := "word.go:114", after := #[{ on := 4, ground := Ground.data }], guard := none }) rfl (fun K hK => ?_) AllReadyH.nil))
              · go_simp
                refine hK.out _ _ trivial (fun _ => ?_)
                clear hK K
                refine wpAnyH_ready (rs := [5]) (by kernel_rfl) (by simp) ?_
                refine (AllReadyH.cons (o := { dst := some 52, op := Op.load 9 (Operand.tmp 51), type := 9, pos := "word.go:114", after := #[{ on := 4, ground := Ground.data }], guard := none }) rfl (fun K hK => ?_) AllReadyH.nil)
                go_simp
                refine hK.out _ _ trivial (fun _ => ?_)
                clear hK K
                refine wpAnyH_take (i := 6) (oi := { dst := some 53, op := Op.binOp BinOp.add 9 (Operand.tmp 50) (Operand.tmp 52) 9, type := 9, pos := "word.go:114", after := #[{ on := 3, ground := Ground.data }, { on := 5, ground := Ground.data }], guard := none }) (v := ?_) rfl (by kernel_rfl) (by kernel_rfl) (by kernel_rfl) (fun _ _ _ h => h) (Or.inl ⟨by kernel_rfl, ?_⟩) trivial ?_
                rotate_left 1
                · (intro w0 _; go_simp; (try with_reducible rfl))
                simp only [Act.put, List.setIfInBounds_toArray, List.set_cons_zero, List.set_cons_succ]
                refine wpAnyH_take (i := 7) (oi := { dst := some 54, op := Op.nilCheck (Operand.tmp 47), type := 0, pos := "word.go:114", after := #[{ on := 0, ground := Ground.data }, { on := 0, ground := Ground.phase }, { on := 1, ground := Ground.phase }, { on := 2, ground := Ground.phase }, { on := 3, ground := Ground.phase }, { on := 4, ground := Ground.phase }, { on := 5, ground := Ground.phase }, { on := 6, ground := Ground.phase }], guard := none }) (v := ?_) rfl (by kernel_rfl) (by kernel_rfl) (by kernel_rfl) (fun _ _ _ h => h) (Or.inl ⟨by kernel_rfl, ?_⟩) trivial ?_
                rotate_left 1
                · (intro w0 _; go_simp; (try with_reducible rfl))
                simp only [Act.put, List.setIfInBounds_toArray, List.set_cons_zero, List.set_cons_succ]
                refine wpAnyH_take (i := 8) (oi := { dst := some 55, op := Op.fieldAddr 33 (Operand.tmp 54) 0, type := 0, pos := "word.go:114", after := #[{ on := 7, ground := Ground.data }, { on := 0, ground := Ground.phase }, { on := 1, ground := Ground.phase }, { on := 2, ground := Ground.phase }, { on := 3, ground := Ground.phase }, { on := 4, ground := Ground.phase }, { on := 5, ground := Ground.phase }, { on := 6, ground := Ground.phase }], guard := none }) (v := ?_) rfl (by kernel_rfl) (by kernel_rfl) (by kernel_rfl) (fun _ _ _ h => h) (Or.inl ⟨by kernel_rfl, ?_⟩) trivial ?_
                rotate_left 1
                · (intro w0 _; go_simp; (try with_reducible rfl))
                simp only [Act.put, List.setIfInBounds_toArray, List.set_cons_zero, List.set_cons_succ]
                refine wpAnyH_ready (rs := [9]) (by kernel_rfl) (by simp) ?_
                refine (AllReadyH.cons (o := { dst := none, op := Op.store 9 (Operand.tmp 55) (Operand.tmp 53), type := 0, pos := "word.go:114", after := #[{ on := 8, ground := Ground.data }, { on := 6, ground := Ground.data }, { on := 0, ground := Ground.phase }, { on := 1, ground := Ground.phase }, { on := 2, ground := Ground.phase }, { on := 3, ground := Ground.phase }, { on := 4, ground := Ground.phase }, { on := 5, ground := Ground.phase }, { on := 6, ground := Ground.phase }], guard := none }) rfl (fun K hK => ?_) AllReadyH.nil)
                go_simp
                refine hK.out _ _ trivial (fun _ => ?_)
                clear hK K
                refine wpAnyH_done (by kernel_rfl) ?_ _
                simp only [onlyN, Exit.then]
                have M7 := (M5.text (wd.text ++ tx)).drew
                have K7 := (K5.set g (ini.length * 3) M5.base.1 (.string (mkB (wd.text ++ tx)))).drew
                rw [← mkB_app, ← HB1.out, ← HB2.out, ← HK.out] at M7 K7
                obtain ⟨W7, hW7⟩ : ∃ W7, (W5.setCell ⟨g, k * 3, none⟩ (.string (b1 ++ b2))).drew = W7 := ⟨_, rfl⟩
                rw [hW7] at M7 K7 ⊢
                clear hW7 M5 K5 c05 y05 f05 cF5
                gi_wp2
                refine ⟨by first | exact K7.1 | (have h1 := K7.1; rw [hsz] at h1; exact h1), K7.2, ?_⟩
                show IWs w (runS t (pre ++ [x])) _
                rw [HS.out]
                exact M7.done
              · go_simp
                refine hK.out _ _ trivial (fun _ => ?_)
                clear hK K
                refine wpAnyH_ready (rs := [3]) (by kernel_rfl) (by simp) ?_
                refine (AllReadyH.cons (o := { dst := some 50, op := Op.load 9 (Operand.tmp 49), type := 9, pos := "word.go:114", after := #[{ on := 2, ground := Ground.data }], guard := none }) rfl (fun K hK => ?_) AllReadyH.nil)
                go_simp
                refine hK.out _ _ trivial (fun _ => ?_)
                clear hK K
                refine wpAnyH_take (i := 6) (oi := { dst := some 53, op := Op.binOp BinOp.add 9 (Operand.tmp 50) (Operand.tmp 52) 9, type := 9, pos := "word.go:114", after := #[{ on := 3, ground := Ground.data }, { on := 5, ground := Ground.data }], guard := none }) (v := ?_) rfl (by kernel_rfl) (by kernel_rfl) (by kernel_rfl) (fun _ _ _ h => h) (Or.inl ⟨by kernel_rfl, ?_⟩) trivial ?_
                rotate_left 1
                · (intro w0 _; go_simp; (try with_reducible rfl))
                simp only [Act.put, List.setIfInBounds_toArray, List.set_cons_zero, List.set_cons_succ]
                refine wpAnyH_take (i := 7) (oi := { dst := some 54, op := Op.nilCheck (Operand.tmp 47), type := 0, pos := "word.go:114", after := #[{ on := 0, ground := Ground.data }, { on := 0, ground := Ground.phase }, { on := 1, ground := Ground.phase }, { on := 2, ground := Ground.phase }, { on := 3, ground := Ground.phase }, { on := 4, ground := Ground.phase }, { on := 5, ground := Ground.phase }, { on := 6, ground := Ground.phase }], guard := none }) (v := ?_) rfl (by kernel_rfl) (by kernel_rfl) (by kernel_rfl) (fun _ _ _ h => h) (Or.inl ⟨by kernel_rfl, ?_⟩) trivial ?_
                rotate_left 1
                · (intro w0 _; go_simp; (try with_reducible rfl))
                simp only [Act.put, List.setIfInBounds_toArray, List.set_cons_zero, List.set_cons_succ]
                refine wpAnyH_take (i := 8) (oi := { dst := some 55, op := Op.fieldAddr 33 (Operand.tmp 54) 0, type := 0, pos := "word.go:114", after := #[{ on := 7, ground := Ground.data }, { on := 0, ground := Ground.phase }, { on := 1, ground := Ground.phase }, { on := 2, ground := Ground.phase }, { on := 3, ground := Ground.phase }, { on := 4, ground := Ground.phase }, { on := 5, ground := Ground.phase }, { on := 6, ground := Ground.phase }], guard := none }) (v := ?_) rfl (by kernel_rfl) (by kernel_rfl) (by kernel_rfl) (fun _ _ _ h => h) (Or.inl ⟨by kernel_rfl, ?_⟩) trivial ?_
                rotate_left 1
                · (intro w0 _; go_simp; (try with_reducible rfl))
                simp only [Act.put, List.setIfInBounds_toArray, List.set_cons_zero, List.set_cons_succ]
                refine wpAnyH_ready (rs := [9]) (by kernel_rfl) (by simp) ?_
                refine (AllReadyH.cons (o := { dst := none, op := Op.store 9 (Operand.tmp 55) (Operand.tmp 53), type := 0, pos := "word.go:114", after := #[{ on := 8, ground := Ground.data }, { on := 6, ground := Ground.data }, { on := 0, ground := Ground.phase }, { on := 1, ground := Ground.phase }, { on := 2, ground := Ground.phase }, { on := 3, ground := Ground.phase }, { on := 4, ground := Ground.phase }, { on := 5, ground := Ground.phase }, { on := 6, ground := Ground.phase }], guard := none }) rfl (fun K hK => ?_) AllReadyH.nil)
                go_simp
                refine hK.out _ _ trivial (fun _ => ?_)
                clear hK K
                refine wpAnyH_done (by kernel_rfl) ?_ _
                simp only [onlyN, Exit.then]
                have M7 := (M5.text (wd.text ++ tx)).drew
                have K7 := (K5.set g (ini.length * 3) M5.base.1 (.string (mkB (wd.text ++ tx)))).drew
                rw [← mkB_app, ← HB1.out, ← HB2.out, ← HK.out] at M7 K7
                obtain ⟨W7, hW7⟩ : ∃ W7, (W5.setCell ⟨g, k * 3, none⟩ (.string (b1 ++ b2))).drew = W7 := ⟨_, rfl⟩
                rw [hW7] at M7 K7 ⊢
                clear hW7 M5 K5 c05 y05 f05 cF5
                gi_wp2
                refine ⟨by first | exact K7.1 | (have h1 := K7.1; rw [hsz] at h1; exact h1), K7.2, ?_⟩
                show IWs w (runS t (pre ++ [x])) _
                rw [HS.out]
                exact M7.done
            · go_simp
              refine hK.out _ _ trivial (fun _ => ?_)
              clear hK K
              refine wpAnyH_take (i := 9) (oi := { dst := some 41, op := Op.call { callee := Callee.builtin Builtin.len, args := #[Operand.tmp 40], argTypes := #[9] }, type := 3, pos := "word.go:113", after := #[{ on := 8, ground := Ground.data }, { on := 1, ground := Ground.guard }], guard := some (1, false) }) (v := ?_) rfl (by kernel_rfl) (by kernel_rfl) (by kernel_rfl) (fun _ _ _ h => h) (Or.inl ⟨by kernel_rfl, ?_⟩) trivial ?_
              rotate_left 1
              · (intro w0 _; go_simp; (try with_reducible rfl))
              simp only [Act.put, List.setIfInBounds_toArray, List.set_cons_zero, List.set_cons_succ]
              refine wpAnyH_ready (rs := [5]) (by kernel_rfl) (by simp) ?_
              refine (AllReadyH.cons (o := { dst := some 37, op := Op.load 9 (Operand.tmp 36), type := 9, pos := "word.go:113", after := #[{ on := 4, ground := Ground.data }, { on := 1, ground := Ground.guard }], guard := some (1, false) }) rfl (fun K hK => ?_) AllReadyH.nil)
              go_simp
              refine hK.out _ _ trivial (fun _ => ?_)
              clear hK K
              refine wpAnyH_take (i := 6) (oi := { dst := some 38, op := Op.call { callee := Callee.builtin Builtin.len, args := #[Operand.tmp 37], argTypes := #[9] }, type := 3, pos := "word.go:113", after := #[{ on := 5, ground := Ground.data }, { on := 1, ground := Ground.guard }], guard := some (1, false) }) (v := ?_) rfl (by kernel_rfl) (by kernel_rfl) (by kernel_rfl) (fun _ _ _ h => h) (Or.inl ⟨by kernel_rfl, ?_⟩) trivial ?_
              rotate_left 1
              · (intro w0 _; go_simp; (try with_reducible rfl))
              simp only [Act.put, List.setIfInBounds_toArray, List.set_cons_zero, List.set_cons_succ]
              refine wpAnyH_take (i := 10) (oi := { dst := some 42, op := Op.binOp BinOp.add 3 (Operand.tmp 38) (Operand.tmp 41) 3, type := 3, pos := "word.go:113", after := #[{ on := 6, ground := Ground.data }, { on := 9, ground := Ground.data }, { on := 1, ground := Ground.guard }], guard := some (1, false) }) (v := ?_) rfl (by kernel_rfl) (by kernel_rfl) (by kernel_rfl) (fun _ _ _ h => h) (Or.inl ⟨by kernel_rfl, ?_⟩) trivial ?_
              rotate_left 1
              · (intro w0 _; go_simp; (try with_reducible rfl))
              simp only [Act.put, List.setIfInBounds_toArray, List.set_cons_zero, List.set_cons_succ]
              refine wpAnyH_take (i := 11) (oi := { dst := some 43, op := Op.binOp BinOp.gtr 3 (Operand.tmp 42) (Operand.const (Value.int IntKind.i64 32)) 3, type := 4, pos := "word.go:113", after := #[{ on := 10, ground := Ground.data }, { on := 1, ground := Ground.guard }], guard := some (1, false) }) (v := ?_) rfl (by kernel_rfl) (by kernel_rfl) (by kernel_rfl) (fun _ _ _ h => h) (Or.inl ⟨by kernel_rfl, ?_⟩) trivial ?_
              rotate_left 1
              · (intro w0 _; go_simp; (try with_reducible rfl))
              simp only [Act.put, List.setIfInBounds_toArray, List.set_cons_zero, List.set_cons_succ]
              refine wpAnyH_take (i := 12) (oi := { dst := some 44, op := Op.pick (Operand.tmp 33) (Operand.const (Value.bool true)) (Operand.tmp 43), type := 4, pos := "word.go:113", after := #[{ on := 1, ground := Ground.data }, { on := 11, ground := Ground.data }], guard := none }) (v := ?_) rfl (by kernel_rfl) (by kernel_rfl) (by kernel_rfl) (fun _ _ _ h => h) (Or.inl ⟨by kernel_rfl, ?_⟩) trivial ?_
              rotate_left 1
              · (intro w0 _; go_simp; (try with_reducible rfl))
              simp only [Act.put, List.setIfInBounds_toArray, List.set_cons_zero, List.set_cons_succ]
              refine wpAnyH_ready (rs := [13]) (by kernel_rfl) (by simp) ?_
              refine (AllReadyH.cons (o := { dst := none, op := Op.store 4 (Operand.tmp 5) (Operand.tmp 44), type := 0, pos := "word.go:113", after := #[{ on := 12, ground := Ground.data }, { on := 1, ground := Ground.chain }, { on := 0, ground := Ground.phase }, { on := 1, ground := Ground.phase }, { on := 2, ground := Ground.phase }, { on := 3, ground := Ground.phase }, { on := 4, ground := Ground.phase }, { on := 5, ground := Ground.phase }, { on := 6, ground := Ground.phase }, { on := 7, ground := Ground.phase }, { on := 8, ground := Ground.phase }, { on := 9, ground := Ground.phase }, { on := 10, ground := Ground.phase }, { on := 11, ground := Ground.phase }, { on := 12, ground := Ground.phase }], guard := none }) rfl (fun K hK => ?_) AllReadyH.nil)
              go_simp
              refine hK.out _ _ trivial (fun _ => ?_)
              clear hK K
              refine wpAnyH_done (by kernel_rfl) ?_ _
              simp only [onlyN, Exit.then]
              have M5 := (M3.setFull false).drew
              have K5 := (K3.set (w.heap.size + 1 + 1) 0 (by omega) (.bool false)).drew
              obtain ⟨W5, hW5⟩ : ∃ W5, (W3.setCell ⟨w.heap.size + 1 + 1, 0, none⟩ (.bool false)).drew = W5 := ⟨_, rfl⟩
              rw [hW5] at M5 K5 ⊢
              clear hW5 M3 K3 cF3 fF3 c03 y03
              have cF5 := M5.bF.cell
              have c05 := M5.c0
              rw [← HK.out] at c05
              dsimp only at c05
              have y05 := M5.y0
              have f05 := M5.fz (k * 3)
              rw [← HB1.out] at c05
              rw [← HB2.out] at y05
              gi_upto_region 14 with fail
              refine region_round (S := fun _ => True) hmx (by kernel_rfl) ?_
              simp only [List.size_toArray, List.length_cons, List.length_nil, Nat.reduceAdd, Array.replicate_succ, Array.replicate_zero]
              refine wpAnyH_take (i := 0) (oi := { dst := some 47, op := Op.move (Operand.tmp 7), type := 44, pos := "word.go:114", after := #[], guard := none }) (v := ?_) rfl (by kernel_rfl) (by kernel_rfl) (by kernel_rfl) (fun _ _ _ h => h) (Or.inl ⟨by kernel_rfl, ?_⟩) trivial ?_
              rotate_left 1
              · (intro w0 _; go_simp; (try with_reducible rfl))
              simp only [Act.put, List.setIfInBounds_toArray, List.set_cons_zero, List.set_cons_succ]
              refine wpAnyH_take (i := 4) (oi := { dst := some 51, op := Op.fieldAddr 33 (Operand.tmp 6) 0, type := 0, pos := "word.go:114", after := #[], guard := none }) (v := ?_) rfl (by kernel_rfl) (by kernel_rfl) (by kernel_rfl) (fun _ _ _ h => h) (Or.inl ⟨by kernel_rfl, ?_⟩) trivial ?_
              rotate_left 1
              · (intro w0 _; go_simp; (try with_reducible rfl))
              simp only [Act.put, List.setIfInBounds_toArray, List.set_cons_zero, List.set_cons_succ]
              refine wpAnyH_take (i := 1) (oi := { dst := some 48, op := Op.nilCheck (Operand.tmp 47), type := 0, pos := "word.go:114", after := #[{ on := 0, ground := Ground.data }], guard := none }) (v := ?_) rfl (by kernel_rfl) (by kernel_rfl) (by kernel_rfl) (fun _ _ _ h => h) (Or.inl ⟨by kernel_rfl, ?_⟩) trivial ?_
              rotate_left 1
              · (intro w0 _; go_simp; (try with_reducible rfl))
              simp only [Act.put, List.setIfInBounds_toArray, List.set_cons_zero, List.set_cons_succ]
              refine wpAnyH_take (i := 2) (oi := { dst := some 49, op := Op.fieldAddr 33 (Operand.tmp 48) 0, type := 0, pos := "word.go:114", after := #[{ on := 1, ground := Ground.data }], guard := none }) (v := ?_) rfl (by kernel_rfl) (by kernel_rfl) (by kernel_rfl) (fun _ _ _ h => h) (Or.inl ⟨by kernel_rfl, ?_⟩) trivial ?_
              rotate_left 1
              · (intro w0 _; go_simp; (try with_reducible rfl))
              simp only [Act.put, List.setIfInBounds_toArray, List.set_cons_zero, List.set_cons_succ]
              refine wpAnyH_ready (rs := [3, 5]) (by kernel_rfl) (by simp) ?_
              refine (AllReadyH.cons (o := { dst := some 50, op := Op.load 9 (Operand.tmp 49), type := 9, pos := "word.go:114", after := #[{ on := 2, ground := Ground.data }], guard := none }) rfl (fun K hK => ?_) (AllReadyH.cons (o := { dst := some 52, op := Op.load 9 (Operand.tmp 51), type := 9, pos := "word.go:114", after := #[{ on := 4, ground := Ground.data }], guard := none }) rfl (fun K hK => ?_) AllReadyH.nil))
              · go_simp
                refine hK.out _ _ trivial (fun _ => ?_)
                clear hK K
                refine wpAnyH_ready (rs := [5]) (by kernel_rfl) (by simp) ?_
                refine (AllReadyH.cons (o := { dst := some 52, op := Op.load 9 (Operand.tmp 51), type := 9, pos := "word.go:114", after := #[{ on := 4, ground := Ground.data }], guard := none }) rfl (fun K hK => ?_) AllReadyH.nil)
                go_simp
                refine hK.out _ _ trivial (fun _ => ?_)
                clear hK K
                refine wpAnyH_take (i := 6) (oi := { dst := some 53, op := Op.binOp BinOp.add 9 (Operand.tmp 50) (Operand.tmp 52) 9, type := 9, pos := "word.go:114", after := #[{ on := 3, ground := Ground.data }, { on := 5, ground := Ground.data }], guard := none }) (v := ?_) rfl (by kernel_rfl) (by kernel_rfl) (by kernel_rfl) (fun _ _ _ h => h) (Or.inl ⟨by kernel_rfl, ?_⟩) trivial ?_
                rotate_left 1
                · (intro w0 _; go_simp; (try with_reducible rfl))
                simp only [Act.put, List.setIfInBounds_toArray, List.set_cons_zero, List.set_cons_succ]
                refine wpAnyH_take (i := 7) (oi := { dst := some 54, op := Op.nilCheck (Operand.tmp 47), type := 0, pos := "word.go:114", after := #[{ on := 0, ground := Ground.data }, { on := 0, ground := Ground.phase }, { on := 1, ground := Ground.phase }, { on := 2, ground := Ground.phase }, { on := 3, ground := Ground.phase }, { on := 4, ground := Ground.phase }, { on := 5, ground := Ground.phase }, { on := 6, ground := Ground.phase }], guard := none }) (v := ?_) rfl (by kernel_rfl) (by kernel_rfl) (by kernel_rfl) (fun _ _ _ h => h) (Or.inl ⟨by kernel_rfl, ?_⟩) trivial ?_
                rotate_left 1
                · (intro w0 _; go_simp; (try with_reducible rfl))
                simp only [Act.put, List.setIfInBounds_toArray, List.set_cons_zero, List.set_cons_succ]
                refine wpAnyH_take (i := 8) (oi := { dst := some 55, op := Op.fieldAddr 33 (Operand.tmp 54) 0, type := 0, pos := "word.go:114", after := #[{ on := 7, ground := Ground.data }, { on := 0, ground := Ground.phase }, { on := 1, ground := Ground.phase }, { on := 2, ground := Ground.phase }, { on := 3, ground := Ground.phase }, { on := 4, ground := Ground.phase }, { on := 5, ground := Ground.phase }, { on := 6, ground := Ground.phase }], guard := none }) (v := ?_) rfl (by kernel_rfl) (by kernel_rfl) (by kernel_rfl) (fun _ _ _ h => h) (Or.inl ⟨by kernel_rfl, ?_⟩) trivial ?_
                rotate_left 1
                · (intro w0 _; go_simp; (try with_reducible rfl))
                simp only [Act.put, List.setIfInBounds_toArray, List.set_cons_zero, List.set_cons_succ]
                refine wpAnyH_ready (rs := [9]) (by kernel_rfl) (by simp) ?_
                refine (AllReadyH.cons (o := { dst := none, op := Op.store 9 (Operand.tmp 55) (Operand.tmp 53), type := 0, pos := "word.go:114", after := #[{ on := 8, ground := Ground.data }, { on := 6, ground := Ground.data }, { on := 0, ground := Ground.phase }, { on := 1, ground := Ground.phase }, { on := 2, ground := Ground.phase }, { on := 3, ground := Ground.phase }, { on := 4, ground := Ground.phase }, { on := 5, ground := Ground.phase }, { on := 6, ground := Ground.phase }], guard := none }) rfl (fun K hK => ?_) AllReadyH.nil)
                go_simp
                refine hK.out _ _ trivial (fun _ => ?_)
                clear hK K
                refine wpAnyH_done (by kernel_rfl) ?_ _
                simp only [onlyN, Exit.then]
                have M7 := (M5.text (wd.text ++ tx)).drew
                have K7 := (K5.set g (ini.length * 3) M5.base.1 (.string (mkB (wd.text ++ tx)))).drew
                rw [← mkB_app, ← HB1.out, ← HB2.out, ← HK.out] at M7 K7
                obtain ⟨W7, hW7⟩ : ∃ W7, (W5.setCell ⟨g, k * 3, none⟩ (.string (b1 ++ b2))).drew = W7 := ⟨_, rfl⟩
                rw [hW7] at M7 K7 ⊢
                clear hW7 M5 K5 c05 y05 f05 cF5
                gi_wp2
                refine ⟨by first | exact K7.1 | (have h1 := K7.1; rw [hsz] at h1; exact h1), K7.2, ?_⟩
                show IWs w (runS t (pre ++ [x])) _
                rw [HS.out]
                exact M7.done
              · go_simp
                refine hK.out _ _ trivial (fun _ => ?_)
                clear hK K
                refine wpAnyH_ready (rs := [3]) (by kernel_rfl) (by simp) ?_
                refine (AllReadyH.cons (o := { dst := some 50, op := Op.load 9 (Operand.tmp 49), type := 9, pos := "word.go:114", after := #[{ on := 2, ground := Ground.data }], guard := none }) rfl (fun K hK => ?_) AllReadyH.nil)
                go_simp
                refine hK.out _ _ trivial (fun _ => ?_)
                clear hK K
                refine wpAnyH_take (i := 6) (oi := { dst := some 53, op := Op.binOp BinOp.add 9 (Operand.tmp 50) (Operand.tmp 52) 9, type := 9, pos := "word.go:114", after := #[{ on := 3, ground := Ground.data }, { on := 5, ground := Ground.data }], guard := none }) (v := ?_) rfl (by kernel_rfl) (by kernel_rfl) (by kernel_rfl) (fun _ _ _ h => h) (Or.inl ⟨by kernel_rfl, ?_⟩) trivial ?_
                rotate_left 1
                · (intro w0 _; go_simp; (try with_reducible rfl))
                simp only [Act.put, List.setIfInBounds_toArray, List.set_cons_zero, List.set_cons_succ]
                refine wpAnyH_take (i := 7) (oi := { dst := some 54, op := Op.nilCheck (Operand.tmp 47), type := 0, pos := "word.go:114", after := #[{ on := 0, ground := Ground.data }, { on := 0, ground := Ground.phase }, { on := 1, ground := Ground.phase }, { on := 2, ground := Ground.phase }, { on := 3, ground := Ground.phase }, { on := 4, ground := Ground.phase }, { on := 5, ground := Ground.phase }, { on := 6, ground := Ground.phase }], guard := none }) (v := ?_) rfl (by kernel_rfl) (by kernel_rfl) (by kernel_rfl) (fun _ _ _ h => h) (Or.inl ⟨by kernel_rfl, ?_⟩) trivial ?_
                rotate_left 1
                · (intro w0 _; go_simp; (try with_reducible rfl))
                simp only [Act.put, List.setIfInBounds_toArray, List.set_cons_zero, List.set_cons_succ]
                refine wpAnyH_take (i := 8) (oi := { dst := some 55, op := Op.fieldAddr 33 (Operand.tmp 54) 0, type := 0, pos := "word.go:114", after := #[{ on := 7, ground := Ground.data }, { on := 0, ground := Ground.phase }, { on := 1, ground := Ground.phase }, { on := 2, ground := Ground.phase }, { on := 3, ground := Ground.phase }, { on := 4, ground := Ground.phase }, { on := 5, ground := Ground.phase }, { on := 6, ground := Ground.phase }], guard := none }) (v := ?_) rfl (by kernel_rfl) (by kernel_rfl) (by kernel_rfl) (fun _ _ _ h => h) (Or.inl ⟨by kernel_rfl, ?_⟩) trivial ?_
                rotate_left 1
                · (intro w0 _; go_simp; (try with_reducible rfl))
                simp only [Act.put, List.setIfInBounds_toArray, List.set_cons_zero, List.set_cons_succ]
                refine wpAnyH_ready (rs := [9]) (by kernel_rfl) (by simp) ?_
                refine (AllReadyH.cons (o := { dst := none, op := Op.store 9 (Operand.tmp 55) (Operand.tmp 53), type := 0, pos := "word.go:114", after := #[{ on := 8, ground := Ground.data }, { on := 6, ground := Ground.data }, { on := 0, ground := Ground.phase }, { on := 1, ground := Ground.phase }, { on := 2, ground := Ground.phase }, { on := 3, ground := Ground.phase }, { on := 4, ground := Ground.phase }, { on := 5, ground := Ground.phase }, { on := 6, ground := Ground.phase }], guard := none }) rfl (fun K hK => ?_) AllReadyH.nil)
                go_simp
                refine hK.out _ _ trivial (fun _ => ?_)
                clear hK K
                refine wpAnyH_done (by kernel_rfl) ?_ _
                simp only [onlyN, Exit.then]
                have M7 := (M5.text (wd.text ++ tx)).drew
                have K7 := (K5.set g (ini.length * 3) M5.base.1 (.string (mkB (wd.text ++ tx)))).drew
                rw [← mkB_app, ← HB1.out, ← HB2.out, ← HK.out] at M7 K7
                obtain ⟨W7, hW7⟩ : ∃ W7, (W5.setCell ⟨g, k * 3, none⟩ (.string (b1 ++ b2))).drew = W7 := ⟨_, rfl⟩
                rw [hW7] at M7 K7 ⊢
                clear hW7 M5 K5 c05 y05 f05 cF5
                gi_wp2
                refine ⟨by first | exact K7.1 | (have h1 := K7.1; rw [hsz] at h1; exact h1), K7.2, ?_⟩
                show IWs w (runS t (pre ++ [x])) _
                rw [HS.out]
                exact M7.done
        · have HS := Lib.hid (show runS t (pre ++ [x]) = (ini ++ [⟨wd.text, wd.a, xb⟩], true, true) by rw [hsn]; unfold grownW cutB; simp)
          clear hsn hw32 hg4
          gi_upto_region 12 with fail
          have M3 := M0.to xb
          have K3 := K0.set g (ini.length * 3 + 2) M0.base.1 (.int .i64 (xb : Nat))
          rw [← HK.out] at M3 K3
          obtain ⟨W3, hW3⟩ : ∃ W3, W.setCell ⟨g, k * 3 + 2, none⟩ (.int .i64 (xb : Nat)) = W3 := ⟨_, rfl⟩
          rw [hW3] at M3 K3 ⊢
          clear hW3 M0 K0 cV c2' f2' cI fI cF fF y0' y2' hm1
          have cF3 := M3.bF.cell
          have fF3 := M3.bF.frozen
          have c03 := M3.c0
          rw [← HK.out] at c03
          dsimp only at c03
          have y03 := M3.y0
          refine region_round (S := fun _ => True) hmx (by kernel_rfl) ?_
          simp only [List.size_toArray, List.length_cons, List.length_nil, Nat.reduceAdd, Array.replicate_succ, Array.replicate_zero]
          refine wpAnyH_ready (rs := [0]) (by kernel_rfl) (by simp) ?_
          refine (AllReadyH.cons (o := { dst := some 32, op := Op.load 4 (Operand.tmp 5), type := 4, pos := "word.go:113", after := #[], guard := none }) rfl (fun K hK => ?_) AllReadyH.nil)
          go_simp
          refine hK.out _ _ trivial (fun _ => ?_)
          clear hK K
          refine wpAnyH_take (i := 1) (oi := { dst := some 33, op := Op.move (Operand.tmp 32), type := 4, pos := "word.go:113", after := #[{ on := 0, ground := Ground.data }], guard := none }) (v := ?_) rfl (by kernel_rfl) (by kernel_rfl) (by kernel_rfl) (fun _ _ _ h => h) (Or.inl ⟨by kernel_rfl, ?_⟩) trivial ?_
          rotate_left 1
          · (intro w0 _; go_simp; (try with_reducible rfl))
          simp only [Act.put, List.setIfInBounds_toArray, List.set_cons_zero, List.set_cons_succ]
          refine wpAnyH_take (i := 2) (oi := { dst := some 34, op := Op.move (Operand.tmp 7), type := 44, pos := "word.go:113", after := #[{ on := 1, ground := Ground.guard }], guard := some (1, false) }) (v := undef) rfl (by kernel_rfl) (by kernel_rfl) (by kernel_rfl) (fun _ _ _ h => h) (Or.inr ⟨by kernel_rfl, rfl⟩) trivial ?_
          simp only [Act.put, List.setIfInBounds_toArray, List.set_cons_zero, List.set_cons_succ]
          refine wpAnyH_take (i := 7) (oi := { dst := some 39, op := Op.fieldAddr 33 (Operand.tmp 6) 0, type := 0, pos := "word.go:113", after := #[{ on := 1, ground := Ground.guard }], guard := some (1, false) }) (v := undef) rfl (by kernel_rfl) (by kernel_rfl) (by kernel_rfl) (fun _ _ _ h => h) (Or.inr ⟨by kernel_rfl, rfl⟩) trivial ?_
          simp only [Act.put, List.setIfInBounds_toArray, List.set_cons_zero, List.set_cons_succ]
          refine wpAnyH_take (i := 3) (oi := { dst := some 35, op := Op.nilCheck (Operand.tmp 34), type := 0, pos := "word.go:113", after := #[{ on := 2, ground := Ground.data }, { on := 1, ground := Ground.guard }], guard := some (1, false) }) (v := undef) rfl (by kernel_rfl) (by kernel_rfl) (by kernel_rfl) (fun _ _ _ h => h) (Or.inr ⟨by kernel_rfl, rfl⟩) trivial ?_
          simp only [Act.put, List.setIfInBounds_toArray, List.set_cons_zero, List.set_cons_succ]
          refine wpAnyH_take (i := 8) (oi := { dst := some 40, op := Op.load 9 (Operand.tmp 39), type := 9, pos := "word.go:113", after := #[{ on := 7, ground := Ground.data }, { on := 1, ground := Ground.guard }], guard := some (1, false) }) (v := undef) rfl (by kernel_rfl) (by kernel_rfl) (by kernel_rfl) (fun _ _ _ h => h) (Or.inr ⟨by kernel_rfl, rfl⟩) trivial ?_
          simp only [Act.put, List.setIfInBounds_toArray, List.set_cons_zero, List.set_cons_succ]
          refine wpAnyH_take (i := 4) (oi := { dst := some 36, op := Op.fieldAddr 33 (Operand.tmp 35) 0, type := 0, pos := "word.go:113", after := #[{ on := 3, ground := Ground.data }, { on := 1, ground := Ground.guard }], guard := some (1, false) }) (v := undef) rfl (by kernel_rfl) (by kernel_rfl) (by kernel_rfl) (fun _ _ _ h => h) (Or.inr ⟨by kernel_rfl, rfl⟩) trivial ?_
          simp only [Act.put, List.setIfInBounds_toArray, List.set_cons_zero, List.set_cons_succ]
          refine wpAnyH_take (i := 9) (oi := { dst := some 41, op := Op.call { callee := Callee.builtin Builtin.len, args := #[Operand.tmp 40], argTypes := #[9] }, type := 3, pos := "word.go:113", after := #[{ on := 8, ground := Ground.data }, { on := 1, ground := Ground.guard }], guard := some (1, false) }) (v := undef) rfl (by kernel_rfl) (by kernel_rfl) (by kernel_rfl) (fun _ _ _ h => h) (Or.inr ⟨by kernel_rfl, rfl⟩) trivial ?_
          simp only [Act.put, List.setIfInBounds_toArray, List.set_cons_zero, List.set_cons_succ]
          refine wpAnyH_take (i := 5) (oi := { dst := some 37, op := Op.load 9 (Operand.tmp 36), type := 9, pos := "word.go:113", after := #[{ on := 4, ground := Ground.data }, { on := 1, ground := Ground.guard }], guard := some (1, false) }) (v := undef) rfl (by kernel_rfl) (by kernel_rfl) (by kernel_rfl) (fun _ _ _ h => h) (Or.inr ⟨by kernel_rfl, rfl⟩) trivial ?_
          simp only [Act.put, List.setIfInBounds_toArray, List.set_cons_zero, List.set_cons_succ]
          refine wpAnyH_take (i := 6) (oi := { dst := some 38, op := Op.call { callee := Callee.builtin Builtin.len, args := #[Operand.tmp 37], argTypes := #[9] }, type := 3, pos := "word.go:113", after := #[{ on := 5, ground := Ground.data }, { on := 1, ground := Ground.guard }], guard := some (1, false) }) (v := undef) rfl (by kernel_rfl) (by kernel_rfl) (by kernel_rfl) (fun _ _ _ h => h) (Or.inr ⟨by kernel_rfl, rfl⟩) trivial ?_
          simp only [Act.put, List.setIfInBounds_toArray, List.set_cons_zero, List.set_cons_succ]
          refine wpAnyH_take (i := 10) (oi := { dst := some 42, op := Op.binOp BinOp.add 3 (Operand.tmp 38) (Operand.tmp 41) 3, type := 3, pos := "word.go:113", after := #[{ on := 6, ground := Ground.data }, { on := 9, ground := Ground.data }, { on := 1, ground := Ground.guard }], guard := some (1, false) }) (v := undef) rfl (by kernel_rfl) (by kernel_rfl) (by kernel_rfl) (fun _ _ _ h => h) (Or.inr ⟨by kernel_rfl, rfl⟩) trivial ?_
          simp only [Act.put, List.setIfInBounds_toArray, List.set_cons_zero, List.set_cons_succ]
          refine wpAnyH_take (i := 11) (oi := { dst := some 43, op := Op.binOp BinOp.gtr 3 (Operand.tmp 42) (Operand.const (Value.int IntKind.i64 32)) 3, type := 4, pos := "word.go:113", after := #[{ on := 10, ground := Ground.data }, { on := 1, ground := Ground.guard }], guard := some (1, false) }) (v := undef) rfl (by kernel_rfl) (by kernel_rfl) (by kernel_rfl) (fun _ _ _ h => h) (Or.inr ⟨by kernel_rfl, rfl⟩) trivial ?_
          simp only [Act.put, List.setIfInBounds_toArray, List.set_cons_zero, List.set_cons_succ]
          refine wpAnyH_take (i := 12) (oi := { dst := some 44, op := Op.pick (Operand.tmp 33) (Operand.const (Value.bool true)) (Operand.tmp 43), type := 4, pos := "word.go:113", after := #[{ on := 1, ground := Ground.data }, { on := 11, ground := Ground.data }], guard := none }) (v := ?_) rfl (by kernel_rfl) (by kernel_rfl) (by kernel_rfl) (fun _ _ _ h => h) (Or.inl ⟨by kernel_rfl, ?_⟩) trivial ?_
          rotate_left 1
          · (intro w0 _; go_simp; (try with_reducible rfl))
          simp only [Act.put, List.setIfInBounds_toArray, List.set_cons_zero, List.set_cons_succ]
          refine wpAnyH_ready (rs := [13]) (by kernel_rfl) (by simp) ?_
          refine (AllReadyH.cons (o := { dst := none, op := Op.store 4 (Operand.tmp 5) (Operand.tmp 44), type := 0, pos := "word.go:113", after := #[{ on := 12, ground := Ground.data }, { on := 1, ground := Ground.chain }, { on := 0, ground := Ground.phase }, { on := 1, ground := Ground.phase }, { on := 2, ground := Ground.phase }, { on := 3, ground := Ground.phase }, { on := 4, ground := Ground.phase }, { on := 5, ground := Ground.phase }, { on := 6, ground := Ground.phase }, { on := 7, ground := Ground.phase }, { on := 8, ground := Ground.phase }, { on := 9, ground := Ground.phase }, { on := 10, ground := Ground.phase }, { on := 11, ground := Ground.phase }, { on := 12, ground := Ground.phase }], guard := none }) rfl (fun K hK => ?_) AllReadyH.nil)
          go_simp
          refine hK.out _ _ trivial (fun _ => ?_)
          clear hK K
          refine wpAnyH_done (by kernel_rfl) ?_ _
          simp only [onlyN, Exit.then]
          have M5 := (M3.setFull true).drew
          have K5 := (K3.set (w.heap.size + 1 + 1) 0 (by omega) (.bool true)).drew
          obtain ⟨W5, hW5⟩ : ∃ W5, (W3.setCell ⟨w.heap.size + 1 + 1, 0, none⟩ (.bool true)).drew = W5 := ⟨_, rfl⟩
          rw [hW5] at M5 K5 ⊢
          clear hW5 M3 K3 cF3 fF3 c03 y03
          have cF5 := M5.bF.cell
          gi_wp2
          refine ⟨by first | exact K5.1 | (have h1 := K5.1; rw [hsz] at h1; exact h1), K5.2, ?_⟩
          show IWs w (runS t (pre ++ [x])) _
          rw [HS.out]
          exact M5.done
  case done =>
    rintro D ys W hD rfl ⟨⟨⟨v, bV1, hrow, hnil⟩, bI1, bF1⟩, hB1, hz⟩ hK
    have hc := bV1.cell
    gi_wp2
    refine ⟨by simp, .inl ⟨_, _, rfl, run_takeDeferred hK, ?_⟩⟩
    exact ⟨_, results_tmp rfl _ _ _, v, rfl, ⟨ownsRow_putObj hrow _ hK rfl, hnil⟩, hB1.trans (belowK_b (w := w) (Nat.le_refl _) W D _ _ (by omega) hK rfl rfl)⟩
  case stop =>
    rintro D c pre W _ _ h _
    exact h.elim
end Go.Proofs.YtoghdllppecblaaDoor
