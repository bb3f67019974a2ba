/- geom's Inside: the walk. -/
import Derived.Test.YtehmdokcdnlcdaaGAhead
import Derived.Test.YtehmdokcdnlcdaaGEdges2
import Derived.RangeFuncNested
import Derived.RangeFuncBound
import Derived.RangeFuncCalls
import Derived.RangeFuncLeaves
import Derived.Shelf.Abstract
import Derived.Shelf.RegionOpen
import Derived.WalkKit
import Derived.OwnWalkIn
import Derived.TacticsInMore
import Derived.LoopNIn
import Derived.LoopIn
import Derived.Sort.CutIn
namespace Go.Proofs.Ytehmdokcdnlcdaa
open Go.RowKit
set_option linter.unusedVariables false

open Go.Shelf
attribute [local go_sem] Oper.semAt_some
def onL (p : Pt) (pre : List (Pt × Pt)) : Bool := pre.any fun x => onB x.1 x.2 p
def sideL (p : Pt) (pre : List (Pt × Pt)) : Int := pre.foldl (fun s x => if ahB x.1 x.2 p then -s else s) (-1)
def InOk (F : Nat → Pt) (n : Nat) (p : Pt) : Bool := decide (0 < n) && (allB F n && mayB p)
def insideI (F : Nat → Pt) (n : Nat) (p : Pt) : Int := if InOk F n p then (if onL p (uptoE F n n) then 0 else sideL p (uptoE F n n)) else 0
theorem onL_snoc (p : Pt) (pre : List (Pt × Pt)) (x : Pt × Pt) : onL p (pre ++ [x]) = (onL p pre || onB x.1 x.2 p) := by simp [onL]
theorem sideL_snoc (p : Pt) (pre : List (Pt × Pt)) (x : Pt × Pt) : sideL p (pre ++ [x]) = if ahB x.1 x.2 p then -sideL p pre else sideL p pre := by simp [sideL]
theorem sideL_bd (p : Pt) (pre : List (Pt × Pt)) : sideL p pre = 1 ∨ sideL p pre = -1 := by
  unfold sideL
  have h : ∀ (l : List (Pt × Pt)) (s : Int), (s = 1 ∨ s = -1) → (l.foldl (fun s x => if ahB x.1 x.2 p then -s else s) s = 1 ∨ l.foldl (fun s x => if ahB x.1 x.2 p then -s else s) s = -1) := by
    intro l
    induction l with
    | nil => intro s h; exact h
    | cons x l ih =>
      intro s h
      rw [List.foldl_cons]
      apply ih
      split
      · omega
      · exact h
  exact h pre (-1) (.inr rfl)
theorem onL_upto {F : Nat → Pt} {n k : Nat} {p : Pt} (hk : k ≤ n) (h : onL p (uptoE F n k) = true) : onL p (uptoE F n n) = true := by
  unfold onL uptoE at *
  rw [List.any_eq_true] at *
  obtain ⟨x, hx, h⟩ := h
  refine ⟨x, ?_, h⟩
  rw [List.mem_map] at *
  obtain ⟨i, hi, rfl⟩ := hx
  exact ⟨i, by rw [List.mem_range] at *; omega, rfl⟩
theorem in_no {F : Nat → Pt} {n : Nat} {p : Pt} (h : InOk F n p = false) : insideI F n p = 0 := by unfold insideI; rw [h]; rfl
theorem in_on {F : Nat → Pt} {n : Nat} {p : Pt} (h : onL p (uptoE F n n) = true) : insideI F n p = 0 := by unfold insideI; rw [h]; split <;> rfl
theorem in_side {F : Nat → Pt} {n : Nat} {p : Pt} (h : InOk F n p = true) (h2 : onL p (uptoE F n n) = false) : insideI F n p = sideL p (uptoE F n n) := by unfold insideI; rw [h, h2]; rfl
theorem Boxed.of_block {W W' : World} {B : Nat} {t : TypeId} {v : Value} (h : Boxed W B t v) (e : W'.heap[B]? = W.heap[B]?) : Boxed W' B t v := e.trans h
theorem Boxed.new2 (w : World) (o : Obj) (t : TypeId) (v : Value) : Boxed ((w.alloc o).alloc (.cells #[v] t)) (w.heap.size + 1) t v := by
  have h := Boxed.new (w.alloc o) t v
  rwa [World.size_alloc] at h
theorem keepsFrom_below {W W' : World} {B : Nat} (l : Below W.heap.size W W') : KeepsFrom B W W' := ⟨l.size, fun k o _ hk _ => (l.block k (Array.getElem?_eq_some_iff.1 hk).1).trans hk⟩
set_option maxRecDepth 100000 in
set_option maxHeartbeats 8000000 in
theorem inside_yes (b o n c : Nat) (F : Nat → Pt) (p : Pt) (w : World) (hP : Pts w (some ⟨b, o, none⟩) n F) (hn1 : n ≤ 9223372036854775806) (h0 : 0 < n) (ha : allB F n = true) (hm : mayB p = true) : Calls Try.prog 23 #[.slice (some ⟨b, o, none⟩) n c, .agg #[.int .i64 p.x, .int .i64 p.y]] w fun e w' => e = .returned (.int .i64 (insideI F n p)) ∧ Below w.heap.size w w' := by
  have hok : InOk F n p = true := by unfold InOk; rw [ha, hm]; simp; omega
  obtain ⟨b', o', e, hcl⟩ := hP.2 h0
  obtain ⟨rfl, rfl⟩ : b = b' ∧ o = o' := by injection e with e; injection e with e1 e2; exact ⟨e1, e2⟩
  have HC := Lib.hid hcl
  have hbw : b < w.heap.size := cell_lt' (hcl 0 h0).1
  have hl2 : Below w.heap.size w ((w.alloc (.cells #[.int .i64 p.x, .int .i64 p.y] 23)).alloc (.cells #[.int .i64 0] 3)) := ((Below.refl _ _).alloc (Nat.le_refl _) _).alloc (by simp) _
  have k1 := all_any _ n c F _ (hP.keep hl2)
  rw [ha] at k1
  have K1 := Lib.hid k1
  have k2 := fun W => may_any p W
  rw [hm] at k2
  have K2 := Lib.hid k2
  have hnz : ((n : Int) == 0) = false := by simp; omega
  have HOK := Lib.hid hok
  clear k1 k2 ha hm hok hcl e hP
  refine (callsIn_wide (n := 5)).1 ?_
  refine callsIn_of_wp_marks Try.func23 rfl trivial ?_ rfl
  simp only [Try.ntmps23, List.size_toArray, List.length_cons, List.length_nil, Nat.reduceAdd, Nat.reduceSub, Array.replicate_succ, Array.replicate_zero, List.push_toArray, List.append_toArray, List.nil_append, List.cons_append]
  gi_wp2_with (first
    | (refine ⟨trivial, ?_⟩; gi_at_call 40; refine CallsIn.mono (callsIn_wide.2 K1.out) ?_; rintro _ w1 ⟨rfl, l1⟩; have L1 := Lib.hid (hl2.trans (l1.mono (by simp; omega))); have b3 : w1.cell? ⟨w.heap.size, 0, none⟩ = some (.int .i64 p.x) := kp' l1 (by simp; omega) (by go_simp); have b4 : w1.cell? ⟨w.heap.size, 1, none⟩ = some (.int .i64 p.y) := kp' l1 (by simp; omega) (by go_simp); have BR := Lib.hid (Boxed.of_block (Boxed.new2 w (.cells #[.int .i64 p.x, .int .i64 p.y] 23) 3 (.int .i64 0)) (l1.block (w.heap.size + 1) (by simp))); clear l1)
    | (refine ⟨trivial, ?_⟩; gi_at_call 16; refine CallsIn.mono (callsIn_wide.2 (K2.out _)) ?_; rintro _ w2 ⟨rfl, l2⟩; have L2 := Lib.hid (below2' L1.out l2); have d3 := kp' l2 (cell_lt' b3) b3; have d4 := kp' l2 (cell_lt' b4) b4; have BR2 := Lib.hid (Boxed.of_block BR.out (l2.block _ (Boxed.lt BR.out))); clear l2)
    | (refine ⟨trivial, ?_⟩; gi_at_call 44; refine CallsIn.mono (callsIn_wide.2 (edges_any _ _ _ _)) ?_; rintro _ _ ⟨rfl, rfl⟩))
  have hB0 : Below w.heap.size w ((w2.alloc (.cells #[.int .i64 (-1)] 3)).alloc (.cells #[.slice (some ⟨b, o, none⟩) n c] 26)) := (L2.out.alloc L2.out.size _).alloc (by have := L2.out.size; simp; omega) _
  have bR := (BR2.out.alloc (.cells #[.int .i64 (-1)] 3)).alloc (.cells #[.slice (some ⟨b, o, none⟩) n c] 26)
  have bS := (Boxed.new w2 3 (.int .i64 (-1))).alloc (.cells #[.slice (some ⟨b, o, none⟩) n c] 26)
  have bE := Boxed.new2 w2 (.cells #[.int .i64 (-1)] 3) 26 (.slice (some ⟨b, o, none⟩) n c)
  have hg5 : w.heap.size + 1 < w2.heap.size := Boxed.lt BR2.out
  have hc0 : ((w2.alloc (.cells #[.int .i64 (-1)] 3)).alloc (.cells #[.slice (some ⟨b, o, none⟩) n c] 26)).cell? ⟨w.heap.size, 0, none⟩ = some (.int .i64 p.x) := kp' (((Below.refl w2.heap.size w2).alloc (Nat.le_refl _) _).alloc (by simp) _) (cell_lt' d3) d3
  have hc1 : ((w2.alloc (.cells #[.int .i64 (-1)] 3)).alloc (.cells #[.slice (some ⟨b, o, none⟩) n c] 26)).cell? ⟨w.heap.size, 1, none⟩ = some (.int .i64 p.y) := kp' (((Below.refl w2.heap.size w2).alloc (Nat.le_refl _) _).alloc (by simp) _) (cell_lt' d4) d4
  have hsz : ((w2.alloc (.cells #[.int .i64 (-1)] 3)).alloc (.cells #[.slice (some ⟨b, o, none⟩) n c] 26)).heap.size = w2.heap.size + 2 := by simp
  obtain ⟨W0, hW0⟩ : ∃ W0, (w2.alloc (.cells #[.int .i64 (-1)] 3)).alloc (.cells #[.slice (some ⟨b, o, none⟩) n c] 26) = W0 := ⟨_, rfl⟩
  rw [hW0] at hB0 bR bS bE hc0 hc1 hsz ⊢
  clear hW0
  obtain ⟨g5, hg⟩ : ∃ g, g = w2.heap.size := ⟨_, rfl⟩
  rw [← hg] at bS bE hsz hg5 ⊢
  clear hg d3 d4 BR BR2 L1 L2 K1 K2
  have hBW := Lib.hid hB0
  refine wpIn_rangeFunc_ownH rfl (by omega) (gf := 54) (lb := #[.pointer (some ⟨g5 + 1, 0, none⟩)]) rfl trivial (enters_of Try.func54 (by kernel_rfl) rfl)
    (edges_stops (5 - 1) (by omega) (g5 + 1) w.heap.size b o n c F hn1 h0 hbw W0 (by omega) (by omega) bE (fun i hi => ⟨kp' hB0 hbw (HC.out i hi).1, kp' hB0 hbw (HC.out i hi).2⟩)) (fun h k => KpE.t h k) (KpE.b (by omega) (by omega)) (Below.refl _ _) (fun _ => rfl)
    (fun pre W => ((onL p pre = false ∧ g5 + 1 < W.heap.size ∧ W.cell? ⟨w.heap.size, 0, none⟩ = some (.int .i64 p.x) ∧ W.cell? ⟨w.heap.size, 1, none⟩ = some (.int .i64 p.y)) ∧ (Boxed W (w.heap.size + 1) 3 (.int .i64 0) ∧ Boxed W g5 3 (.int .i64 (sideL p pre)))) ∧ Below w.heap.size w W)
    (fun cd pre W => (cd = .ret ∧ onL p pre = true ∧ Boxed W (w.heap.size + 1) 3 (.int .i64 0)) ∧ Below w.heap.size w W)
    (OwnFrom.and (OwnFrom.and (Own.from (fun s A B row hs hg hr => ⟨hs.1, Nat.lt_of_lt_of_le hs.2.1 hg.size, cell_kept hs.2.2.1 hg hr, cell_kept hs.2.2.2 hg hr⟩) _) (OwnFrom.and (Own.from (boxed_own _ _ (fun _ => .int .i64 0)) _) (Own.from (boxed_own _ _ (fun pre => .int .i64 (sideL p pre))) _))) (ownFrom_below (Nat.le_refl _) (by omega)))
    (fun cd => OwnFrom.and (Own.from (fun s A B row hs hg hr => ⟨hs.1, hs.2.1, boxed_own _ _ (fun (_ : Unit) => .int .i64 0) () A B row hs.2.2 hg hr⟩) _) (ownFrom_below (Nat.le_refl _) (by omega)))
    ⟨⟨⟨rfl, by omega, hc0, hc1⟩, bR, bS⟩, hB0⟩
    (fun x a' W => ∃ Ba Bb, g5 + 1 < Ba ∧ g5 + 1 < Bb ∧ (W.cell? ⟨Ba, 0, none⟩ = some (.int .i64 x.1.x) ∧ W.cell? ⟨Ba, 1, none⟩ = some (.int .i64 x.1.y)) ∧ (W.cell? ⟨Bb, 0, none⟩ = some (.int .i64 x.2.x) ∧ W.cell? ⟨Bb, 1, none⟩ = some (.int .i64 x.2.y)) ∧ a' = { tmps := #[.slice (some ⟨b, o, none⟩) n c, .agg #[.int .i64 p.x, .int .i64 p.y], undef, .pointer (some ⟨w.heap.size, 0, none⟩), .pointer (some ⟨w.heap.size + 1, 0, none⟩), .pointer (some ⟨g5, 0, none⟩), .pointer (some ⟨Ba, 0, none⟩), .pointer (some ⟨Bb, 0, none⟩), .slice (some ⟨b, o, none⟩) n c, .int .i64 n, .bool false, .bool false, .slice (some ⟨b, o, none⟩) n c, .bool true, .bool false, .bool false, .bool false, .agg #[.int .i64 p.x, .int .i64 p.y], .bool true, .bool false, .bool false, .slice (some ⟨b, o, none⟩) n c, .func (.func 54) #[] #[.pointer (some ⟨g5 + 1, 0, none⟩)], .agg #[.int .i64 x.1.x, .int .i64 x.1.y], .agg #[.int .i64 x.2.x, .int .i64 x.2.y], undef, undef, undef, undef, undef, undef, undef, undef, undef, undef, undef], defers := [] })
    (fun x a' _ X Y row hs hg hr => by
      obtain ⟨Ba, Bb, h1, h2, ⟨h3, h4⟩, ⟨h5, h6⟩, h7⟩ := hs
      have hr' := fun r e => (hr r e).2
      exact ⟨Ba, Bb, h1, h2, ⟨cell_kept h3 hg hr', cell_kept h4 hg hr'⟩, ⟨cell_kept h5 hg hr', cell_kept h6 hg hr'⟩, h7⟩)
    ?assign ?body ?done ?stop
  case assign =>
    rintro l pre ⟨xa, xb⟩ W K ⟨⟨⟨hon, hz, hb3, hb4⟩, bR1, bS1⟩, hB1⟩ hK
    have HKK := Lib.hid hK
    clear hK
    gi_wp2
    have hsW := hB1.size
    have hl2 : Below w.heap.size W ((W.alloc (.cells #[.int .i64 xa.x, .int .i64 xa.y] 23)).alloc (.cells #[.int .i64 xb.x, .int .i64 xb.y] 23)) := ((Below.refl _ W).alloc hsW _).alloc (by simp; omega) _
    have hl3 : Below W.heap.size W ((W.alloc (.cells #[.int .i64 xa.x, .int .i64 xa.y] 23)).alloc (.cells #[.int .i64 xb.x, .int .i64 xb.y] 23)) := ((Below.refl _ W).alloc (Nat.le_refl _) _).alloc (by simp) _
    refine HKK.out _ _ (((KeepsOthers.alloc _ _).trans (KeepsOthers.alloc _ _)).from _) ⟨hl2, hl3.block _ hz⟩ ⟨⟨⟨hon, by simp; omega, kp' hl3 (cell_lt' hb3) hb3, kp' hl3 (cell_lt' hb4) hb4⟩, (bR1.alloc _).alloc _, (bS1.alloc _).alloc _⟩, hB1.trans hl2⟩ ⟨W.heap.size, W.heap.size + 1, hz, by omega, ⟨by go_simp, by go_simp⟩, ⟨by go_simp, by go_simp⟩, rfl⟩
  case body =>
    rintro l pre ⟨xa, xb⟩ a' W hl ⟨r, hr⟩ ⟨⟨⟨hon, hz, hb3, hb4⟩, bR1, bS1⟩, hB1⟩ ⟨Ba, Bb, hBa, hBb, ⟨x0, x1⟩, ⟨y0, y1⟩, rfl⟩ hlt
    dsimp only at x0 x1 y0 y1
    have hsW := hB1.size
    have ko := fun V => on_any xa xb p V
    have ka := fun V => ahead_any xa xb p V
    have hsd := sideL_bd p pre
    have hmn : 1 ≤ 5 - 1 - 1 := by omega
    cases ho : onB xa xb p
    · rw [ho] at ko
      have KO := Lib.hid ko
      cases hah : ahB xa xb p
      · rw [hah] at ka
        have KA := Lib.hid ka
        have HS := Lib.hid (show onL p (pre ++ [(xa, xb)]) = false by rw [onL_snoc, hon]; exact ho)
        have HT := Lib.hid (show sideL p (pre ++ [(xa, xb)]) = sideL p pre by rw [sideL_snoc, if_neg (by simp [hah])])
        clear ko ka ho hah hon hsd
        gi_wp2_with (first
          | (refine ⟨trivial, ?_⟩; gi_at_call 15; refine CallsIn.mono (CallsIn.inRound l (callsIn_wide.2 (KO.out _))) ?_; rintro _ w5 ⟨rfl, l5⟩; have L5 := Lib.hid l5; have e0 := kp' l5 (cell_lt' x0) x0; have e1 := kp' l5 (cell_lt' x1) x1; have e2 := kp' l5 (cell_lt' y0) y0; have e3 := kp' l5 (cell_lt' y1) y1; have e4 := kp' l5 (cell_lt' hb3) hb3; have e5 := kp' l5 (cell_lt' hb4) hb4; have R5 := Lib.hid (Boxed.of_block bR1 (l5.block _ bR1.lt)); have S5 := Lib.hid (Boxed.of_block bS1 (l5.block _ bS1.lt)); have cR5 := R5.out.cell; have fR5 := R5.out.frozen; clear l5)
          | (refine ⟨trivial, ?_⟩; gi_at_call 45; refine CallsIn.mono (CallsIn.inRound l (callsIn_wide.2 (KA.out _))) ?_; rintro _ w6 ⟨rfl, l6⟩; have L6 := Lib.hid (below2' L5.out l6); have R6 := Lib.hid (Boxed.of_block R5.out (l6.block _ R5.out.lt)); have S6 := Lib.hid (Boxed.of_block S5.out (l6.block _ S5.out.lt)); have cS6 := S6.out.cell; have fS6 := S6.out.frozen; have g3 := kp' l6 (cell_lt' e4) e4; have g4 := kp' l6 (cell_lt' e5) e5; clear l6))
        exact ⟨keepsFrom_below L6.out, ⟨L6.out.mono hsW, L6.out.block _ hz⟩, ⟨⟨⟨HS.out, Nat.lt_of_lt_of_le hz L6.out.size, g3, g4⟩, R6.out, by rw [HT.out]; exact S6.out⟩, hB1.trans (L6.out.mono hsW)⟩⟩
      · rw [hah] at ka
        have KA := Lib.hid ka
        have HS := Lib.hid (show onL p (pre ++ [(xa, xb)]) = false by rw [onL_snoc, hon]; exact ho)
        have HT := Lib.hid (show sideL p (pre ++ [(xa, xb)]) = -sideL p pre by rw [sideL_snoc, if_pos (by simp [hah])])
        obtain ⟨sv, hsv⟩ : ∃ sv, sv = sideL p pre := ⟨_, rfl⟩
        rw [← hsv] at hsd bS1 HT
        have hwr : IntKind.i64.wrap (-sv) = -sv := IntWalk.i64_in _ (by omega)
        have hwr2 : wrap64 (-sv) = -sv := by rw [wrap64_eq]; omega
        clear ko ka ho hah hon hsv hsd
        gi_wp2_with (first
          | (refine ⟨trivial, ?_⟩; gi_at_call 15; refine CallsIn.mono (CallsIn.inRound l (callsIn_wide.2 (KO.out _))) ?_; rintro _ w5 ⟨rfl, l5⟩; have L5 := Lib.hid l5; have e0 := kp' l5 (cell_lt' x0) x0; have e1 := kp' l5 (cell_lt' x1) x1; have e2 := kp' l5 (cell_lt' y0) y0; have e3 := kp' l5 (cell_lt' y1) y1; have e4 := kp' l5 (cell_lt' hb3) hb3; have e5 := kp' l5 (cell_lt' hb4) hb4; have R5 := Lib.hid (Boxed.of_block bR1 (l5.block _ bR1.lt)); have S5 := Lib.hid (Boxed.of_block bS1 (l5.block _ bS1.lt)); have cR5 := R5.out.cell; have fR5 := R5.out.frozen; clear l5)
          | (refine ⟨trivial, ?_⟩; gi_at_call 45; refine CallsIn.mono (CallsIn.inRound l (callsIn_wide.2 (KA.out _))) ?_; rintro _ w6 ⟨rfl, l6⟩; have L6 := Lib.hid (below2' L5.out l6); have R6 := Lib.hid (Boxed.of_block R5.out (l6.block _ R5.out.lt)); have S6 := Lib.hid (Boxed.of_block S5.out (l6.block _ S5.out.lt)); have cS6 := S6.out.cell; have fS6 := S6.out.frozen; have g3 := kp' l6 (cell_lt' e4) e4; have g4 := kp' l6 (cell_lt' e5) e5; clear l6))
        clear hwr hwr2
        have hl := (L6.out.mono hsW).setCell (p := ⟨g5, 0, none⟩) (show w.heap.size ≤ g5 by omega) (.int .i64 (-sv))
        exact ⟨(keepsFrom_below L6.out).trans ((KeepsOthers.setCell _ _ _).from _), ⟨hl, (Below.heap_setCell _ _ _ _ (by simp)).trans (L6.out.block _ hz)⟩, ⟨⟨⟨HS.out, Nat.lt_of_lt_of_le hz (by have := L6.out.size; simpa using this), (World.cell?_setCell_far _ _ _ _ (by simp; omega)).trans g3, (World.cell?_setCell_far _ _ _ _ (by simp; omega)).trans g4⟩, R6.out.other (by omega) _, by rw [HT.out]; exact S6.out.set _⟩, hB1.trans hl⟩⟩
    · rw [ho] at ko
      have KO := Lib.hid ko
      have HS := Lib.hid (show onL p (pre ++ [(xa, xb)]) = true by rw [onL_snoc, ho]; simp)
      clear ko ka ho hon hsd
      gi_wp2_with (refine ⟨trivial, ?_⟩; gi_at_call 15; refine CallsIn.mono (CallsIn.inRound l (callsIn_wide.2 (KO.out _))) ?_; rintro _ w5 ⟨rfl, l5⟩; have L5 := Lib.hid l5; have e0 := kp' l5 (cell_lt' x0) x0; have e1 := kp' l5 (cell_lt' x1) x1; have e2 := kp' l5 (cell_lt' y0) y0; have e3 := kp' l5 (cell_lt' y1) y1; have e4 := kp' l5 (cell_lt' hb3) hb3; have e5 := kp' l5 (cell_lt' hb4) hb4; have R5 := Lib.hid (Boxed.of_block bR1 (l5.block _ bR1.lt)); have S5 := Lib.hid (Boxed.of_block bS1 (l5.block _ bS1.lt)); have cR5 := R5.out.cell; have fR5 := R5.out.frozen; clear l5)
      exact ⟨(keepsFrom_below L5.out).trans ((KeepsOthers.setCell _ _ _).from _), ⟨rfl, HS.out, R5.out.set _⟩, hB1.trans ((L5.out.mono hsW).setCell (p := ⟨w.heap.size + 1, 0, none⟩) (by simp) _)⟩
  case done =>
    rintro D ys W hD rfl ⟨⟨⟨hon, hz, hb3, hb4⟩, bR1, bS1⟩, hB1⟩ hK
    have cS := bS1.cell
    have cR := bR1.cell
    have fR := bR1.frozen
    have HE := Lib.hid (in_side HOK.out hon)
    obtain ⟨sv, hsv⟩ : ∃ sv, sv = sideL p (uptoE F n n) := ⟨_, rfl⟩
    rw [← hsv] at cS HE
    clear hsv hon
    gi_wp2
    have hK' := (KeepsOthers.setCell W ⟨w.heap.size + 1, 0, none⟩ (.int .i64 sv)).same D _ hK rfl
    refine ⟨by simp, .inl ⟨_, _, rfl, run_takeDeferred hK', ?_⟩⟩
    have hc5 := cell_kept (World.cell?_setCell_same' W ⟨w.heap.size + 1, 0, none⟩ (.int .i64 sv) (by rw [cR]; rfl)) (grownBy_putObj' _ D (.deferred none)) (fun r e => by cases e; exact ⟨_, hK', rfl⟩)
    refine ⟨.int .i64 sv, ?_, by rw [HE.out], (hB1.setCell (p := ⟨w.heap.size + 1, 0, none⟩) (by simp) _).trans (belowK_b (w := w) (Nat.le_refl _) _ D _ _ (by omega) hK' rfl rfl)⟩
    simp [results, Try.f23, go_sem, hc5]
  case stop =>
    rintro D cd pre W hD ⟨k, hk, rfl⟩ ⟨⟨rfl, hon, bR1⟩, hB1⟩ hK
    have HE := Lib.hid (in_on (F := F) (n := n) (p := p) (onL_upto hk hon))
    clear hon
    gi_wp2
    refine ⟨by simp, .inl ⟨_, _, rfl, run_takeDeferred hK, ?_⟩⟩
    have hc5 := cell_kept bR1.cell (grownBy_putObj' _ D (.deferred none)) (fun r e => by cases e; exact ⟨_, hK, rfl⟩)
    refine ⟨.int .i64 0, ?_, by rw [HE.out], hB1.trans (belowK_b (w := w) (Nat.le_refl _) W D _ _ (by omega) hK rfl rfl)⟩
    simp [results, Try.f23, go_sem, hc5]
end Go.Proofs.Ytehmdokcdnlcdaa
