/- word's looked: what the table tells of a sign. -/
import Derived.Test.YtoghdllppecblaaDoorQRows
import Derived.Sort.CutIn
namespace Go.Proofs.YtoghdllppecblaaDoor
open Go.RowKit
set_option linter.unusedVariables false
set_option linter.unusedSimpArgs false

open Go.Shelf
attribute [local go_sem] Oper.semAt_some
theorem Boxed.of_block {W W' : World} {B : Nat} {t : TypeId} {v : Value} (h : Boxed W B t v) (e : W'.heap[B]? = W.heap[B]?) : Boxed W' B t v := e.trans h
theorem Boxed.new2 (w : World) (o : Obj) (t : TypeId) (v : Value) : Boxed ((w.alloc o).alloc (.cells #[v] t)) (w.heap.size + 1) t v := by
  have h := Boxed.new (w.alloc o) t v
  rwa [World.size_alloc] at h
theorem keepsFrom_below {W W' : World} {B : Nat} (l : Below W.heap.size W W') : KeepsFrom B W W' := ⟨l.size, fun k o _ hk _ => (l.block k (Array.getElem?_eq_some_iff.1 hk).1).trans hk⟩
theorem keepsWalks_below {W W' : World} (l : Below W.heap.size W W') : KeepsWalks W W' := ⟨l.size, fun k o hk _ => (l.block k (Array.getElem?_eq_some_iff.1 hk).1).trans hk⟩
theorem rows_any (w : World) : Calls Tryd.prog 25 #[] w fun e w' => e = .returned (.func (.func 28) #[] #[]) ∧ w' = w := by
  go_enter Tryd.func25, Tryd.ntmps25
  go_wp2
  go_ret
  exact ⟨rfl, rfl⟩
theorem rows_stops (n : Nat) (hn : 1 ≤ n) (w : World) (hT : TabT w) :
    SeqStopsK Fence.wide n Tryd.prog 28 #[] encRw KeepsWalks (fun ys => ys = tabL) (fun pre => ∃ k, k ≤ 40 ∧ pre = tabL.take k) 40 w := fun l J Jx W hW hJ _ hY h0 =>
  rows1_in n hn l J Jx W hJ hY (hT.below hW) h0
/-- Is a sign one of those of a row? -/
def hit (c : Int) (r : Rw) : Bool := wi c r.1 r.2.1
theorem lookL_none {c : Int} (h : tabL.find? (hit c) = none) : lookL c = [] := by
  unfold lookL
  have : tabL.find? (fun r => decide (r.1 ≤ c) && decide (c ≤ r.2.1)) = none := h
  rw [this]
theorem lookL_some {c : Int} {r : Rw} (h : tabL.find? (hit c) = some r) : lookL c = r.2.2 := by
  unfold lookL
  have : tabL.find? (fun r => decide (r.1 ≤ c) && decide (c ≤ r.2.1)) = some r := h
  rw [this]
theorem find_take {c : Int} {k : Nat} {r : Rw} (h : (tabL.take k).find? (hit c) = some r) : tabL.find? (hit c) = some r := by
  rw [← List.take_append_drop k tabL, List.find?_append, h]
  rfl
theorem find_snoc_no {c : Int} {pre : List Rw} {x : Rw} (h : pre.find? (hit c) = none) (hx : hit c x = false) : (pre ++ [x]).find? (hit c) = none := by
  rw [List.find?_append, h]
  simp [hx]
theorem find_snoc_yes {c : Int} {pre : List Rw} {x : Rw} (h : pre.find? (hit c) = none) (hx : hit c x = true) : (pre ++ [x]).find? (hit c) = some x := by
  rw [List.find?_append, h]
  simp [hx]
set_option maxRecDepth 100000 in
set_option maxHeartbeats 8000000 in
theorem looked_any (c : Int) (w : World) (hT : TabT w) : Calls Tryd.prog 17 #[.int .i32 c] w fun e w' => e = .returned (.string (mkB (lookL c))) ∧ Below w.heap.size w w' := by
  refine (callsIn_wide (n := 5)).1 ?_
  refine callsIn_of_wp_marks Tryd.func17 rfl trivial ?_ rfl
  simp only [Tryd.ntmps17, List.size_toArray, List.length_cons, List.length_nil, Nat.reduceAdd, Nat.reduceSub, Array.replicate_succ, Array.replicate_zero, List.push_toArray, List.append_toArray, List.nil_append, List.cons_append]
  gi_wp2_with (refine ⟨trivial, ?_⟩; gi_at_call 25; refine CallsIn.mono (callsIn_wide.2 (rows_any _)) ?_; rintro _ _ ⟨rfl, rfl⟩)
  have bC := (Boxed.new w 21 (.int .i32 c)).alloc (.cells #[.string ⟨#[]⟩] 9)
  have bR := Boxed.new2 w (.cells #[.int .i32 c] 21) 9 (.string ⟨#[]⟩)
  have hB0 : Below w.heap.size w ((w.alloc (.cells #[.int .i32 c] 21)).alloc (.cells #[.string ⟨#[]⟩] 9)) := ((Below.refl _ _).alloc (Nat.le_refl _) _).alloc (by simp) _
  have hsz : ((w.alloc (.cells #[.int .i32 c] 21)).alloc (.cells #[.string ⟨#[]⟩] 9)).heap.size = w.heap.size + 2 := by simp
  obtain ⟨W0, hW0⟩ : ∃ W0, (w.alloc (.cells #[.int .i32 c] 21)).alloc (.cells #[.string ⟨#[]⟩] 9) = W0 := ⟨_, rfl⟩
  rw [hW0] at bC bR hB0 hsz ⊢
  clear hW0
  have hT0 := hT.below hB0
  refine wpIn_rangeFunc_ownH rfl (by omega) (gf := 28) (lb := #[]) rfl trivial (enters_of Tryd.func28 (by kernel_rfl) rfl)
    (rows_stops (5 - 1) (by omega) W0 hT0) walksK_t walksK_b (Below.refl _ _) (fun _ => rfl)
    (fun pre W => (pre.find? (hit c) = none ∧ (Boxed W w.heap.size 21 (.int .i32 c) ∧ Boxed W (w.heap.size + 1) 9 (.string ⟨#[]⟩))) ∧ Below w.heap.size w W)
    (fun cd pre W => (∃ r, cd = .ret ∧ pre.find? (hit c) = some r ∧ Boxed W (w.heap.size + 1) 9 (.string (mkB r.2.2))) ∧ Below w.heap.size w W)
    (OwnFrom.and (Own.from (fun s A B row hs hg hr => ⟨hs.1, boxed_own _ _ (fun (_ : Unit) => .int .i32 c) () A B row hs.2.1 hg hr, boxed_own _ _ (fun (_ : Unit) => .string ⟨#[]⟩) () A B row hs.2.2 hg hr⟩) _) (ownFrom_below (Nat.le_refl _) (by omega)))
    (fun cd => OwnFrom.and (Own.from (fun s A B row hs hg hr => by obtain ⟨r, h1, h2, h3⟩ := hs; exact ⟨r, h1, h2, boxed_own _ _ (fun (_ : Unit) => .string (mkB r.2.2)) () A B row h3 hg hr⟩) _) (ownFrom_below (Nat.le_refl _) (by omega)))
    ⟨⟨rfl, bC, bR⟩, hB0⟩
    (fun x a' W => ∃ Bb, w.heap.size + 1 < Bb ∧ (W.cell? ⟨Bb, 0, none⟩ = some (.int .i32 x.1) ∧ W.cell? ⟨Bb, 1, none⟩ = some (.int .i32 x.2.1) ∧ W.cell? ⟨Bb, 2, none⟩ = some (.string (mkB x.2.2))) ∧ a' = { tmps := #[.int .i32 c, .pointer (some ⟨w.heap.size, 0, none⟩), .pointer (some ⟨w.heap.size + 1, 0, none⟩), .pointer (some ⟨Bb, 0, none⟩), .func (.func 28) #[] #[], .agg #[.int .i32 x.1, .int .i32 x.2.1, .string (mkB x.2.2)], undef, undef, undef, undef, undef, undef, undef, undef], defers := [] })
    (fun x a' _ X Y row hs hg hr => by
      obtain ⟨Bb, h1, ⟨h2, h3, h4⟩, h5⟩ := hs
      have hr' := fun r e => (hr r e).2
      exact ⟨Bb, h1, ⟨cell_kept h2 hg hr', cell_kept h3 hg hr', cell_kept h4 hg hr'⟩, h5⟩)
    ?assign ?body ?done ?stop
  case assign =>
    rintro l pre ⟨x0, x1, x2⟩ W K ⟨⟨hf, bC1, bR1⟩, hB1⟩ hK
    have HKK := Lib.hid hK
    clear hK
    gi_wp2
    have hsW := hB1.size
    have hz : w.heap.size + 1 < W.heap.size := bR1.lt
    have hl2 : Below w.heap.size W (W.alloc (.cells #[.int .i32 x0, .int .i32 x1, .string (mkB x2)] 51)) := (Below.refl _ W).alloc hsW _
    have hl3 : Below W.heap.size W (W.alloc (.cells #[.int .i32 x0, .int .i32 x1, .string (mkB x2)] 51)) := (Below.refl _ W).alloc (Nat.le_refl _) _
    exact HKK.out _ _ ((KeepsOthers.alloc _ _).from _) (keepsWalks_below hl3) ⟨⟨hf, bC1.alloc _, bR1.alloc _⟩, hB1.trans hl2⟩ ⟨W.heap.size, hz, ⟨by go_simp, by go_simp, by go_simp⟩, rfl⟩
  case body =>
    rintro l pre ⟨x0, x1, x2⟩ a' W hl ⟨r, hr⟩ ⟨⟨hf, bC1, bR1⟩, hB1⟩ ⟨Bb, hBb, ⟨y0, y1, y2⟩, rfl⟩ hlt
    dsimp only at y0 y1 y2
    have hsW := hB1.size
    have cC := bC1.cell
    have cR := bR1.cell
    have fR := bR1.frozen
    have kw := fun V => within_any c x0 x1 V
    have hmn : 1 ≤ 5 - 1 - 1 := by omega
    cases hh : wi c x0 x1
    · rw [hh] at kw
      have KW := Lib.hid kw
      have HS := Lib.hid (find_snoc_no (x := (x0, x1, x2)) hf (show hit c (x0, x1, x2) = false from hh))
      clear kw hh hf
      gi_wp2_with (refine ⟨trivial, ?_⟩; gi_at_call 16; refine CallsIn.mono (CallsIn.inRound l (callsIn_wide.2 (KW.out _))) ?_; rintro _ w5 ⟨rfl, hw5⟩; subst hw5)
      exact ⟨KeepsFrom.refl _ _, KeepsWalks.refl _, ⟨⟨HS.out, bC1, bR1⟩, hB1⟩⟩
    · rw [hh] at kw
      have KW := Lib.hid kw
      have HS := Lib.hid (find_snoc_yes (x := (x0, x1, x2)) hf (show hit c (x0, x1, x2) = true from hh))
      clear kw hh hf
      gi_wp2_with (refine ⟨trivial, ?_⟩; gi_at_call 16; refine CallsIn.mono (CallsIn.inRound l (callsIn_wide.2 (KW.out _))) ?_; rintro _ w5 ⟨rfl, hw5⟩; subst hw5)
      exact ⟨(KeepsOthers.setCell _ _ _).from _, ⟨_, rfl, HS.out, bR1.set _⟩, hB1.setCell (p := ⟨w.heap.size + 1, 0, none⟩) (by simp) _⟩
  case done =>
    rintro D ys W hD rfl ⟨⟨hf, bC1, bR1⟩, hB1⟩ hK
    have cR := bR1.cell
    have fR := bR1.frozen
    have HE := Lib.hid (lookL_none hf)
    clear hf
    gi_wp2
    have hK' := (KeepsOthers.setCell W ⟨w.heap.size + 1, 0, none⟩ (.string ⟨#[]⟩)).same D _ hK rfl
    refine ⟨by simp, .inl ⟨_, _, rfl, run_takeDeferred hK', ?_⟩⟩
    have hc5 := cell_kept (World.cell?_setCell_same' W ⟨w.heap.size + 1, 0, none⟩ (.string ⟨#[]⟩) (by rw [cR]; rfl)) (grownBy_putObj' _ D (.deferred none)) (fun r e => by cases e; exact ⟨_, hK', rfl⟩)
    refine ⟨.string ⟨#[]⟩, ?_, by rw [HE.out]; rfl, (hB1.setCell (p := ⟨w.heap.size + 1, 0, none⟩) (by simp) _).trans (belowK_b (w := w) (Nat.le_refl _) _ D _ _ (by omega) hK' rfl rfl)⟩
    simp [results, Tryd.f17, go_sem, hc5]
  case stop =>
    rintro D cd pre W hD ⟨k, hk, rfl⟩ ⟨⟨r, rfl, hf, bR1⟩, hB1⟩ hK
    have HE := Lib.hid (lookL_some (find_take hf))
    clear hf
    gi_wp2
    refine ⟨by simp, .inl ⟨_, _, rfl, run_takeDeferred hK, ?_⟩⟩
    have hc5 := cell_kept bR1.cell (grownBy_putObj' _ D (.deferred none)) (fun r e => by cases e; exact ⟨_, hK, rfl⟩)
    refine ⟨.string (mkB r.2.2), ?_, by rw [HE.out], hB1.trans (belowK_b (w := w) (Nat.le_refl _) W D _ _ (by omega) hK rfl rfl)⟩
    simp [results, Tryd.f17, go_sem, hc5]
end Go.Proofs.YtoghdllppecblaaDoor
