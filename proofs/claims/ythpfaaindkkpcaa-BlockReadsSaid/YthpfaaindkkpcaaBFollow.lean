/- block.Follow: for every two postings. -/
import Derived.Test.YthpfaaindkkpcaaBMay
namespace Go.Proofs.Ythpfaaindkkpcaa
open Go.RowKit Go.Maps
set_option linter.unusedVariables false
set_option linter.unusedSimpArgs false

theorem may_is {row len : Int} {A : Option Addr} {n c : Nat} {F : Nat → Int} {v : Bool} (h : mayB row len n F = v) (w : World) (hI : Ints w A n F) : Calls Try.prog 27 #[.agg #[.int .i64 row, .int .i64 len, .slice A n c]] w fun e w' => e = .returned (.bool v) ∧ Below w.heap.size w w' := by
  rw [← h]; exact may_any row len A n c F w hI
set_option maxHeartbeats 8000000 in
theorem follow_no (row1 len1 : Int) (A1 : Option Addr) (n1 c1 : Nat) (F : Nat → Int) (row2 len2 : Int) (A2 : Option Addr) (n2 c2 : Nat) (G : Nat → Int) (d : Int) (w : World) (h1 : Ints w A1 n1 F) (h2 : Ints w A2 n2 G) (hno : ¬ FolP row1 len1 n1 F row2 len2 n2 G d) :
    Calls Try.prog 17 #[.agg #[.int .i64 row1, .int .i64 len1, .slice A1 n1 c1], .agg #[.int .i64 row2, .int .i64 len2, .slice A2 n2 c2], .int .i64 d] w fun e w' => e = .returned (.slice none 0 0) ∧ Below w.heap.size w w' := by
  have hB : Below w.heap.size w ((w.alloc (.cells #[.int .i64 row1, .int .i64 len1, .slice A1 n1 c1] 48)).alloc (.cells #[.int .i64 row2, .int .i64 len2, .slice A2 n2 c2] 48)) := ((Below.refl _ _).alloc (Nat.le_refl _) _).alloc (by simp) _
  have HB := Lib.hid hB
  have HN := Lib.hid hno
  by_cases d1 : 1 ≤ d
  · by_cases d2 : d ≤ 1048576
    · by_cases hr : row1 = row2
      · subst hr
        have I1 := h1.below hB (Nat.le_refl _)
        have I2 := h2.below hB (Nat.le_refl _)
        cases hm1 : mayB row1 len1 n1 F with
        | false =>
          have HM := Lib.hid (may_is (c := c1) hm1 _ I1)
          clear hm1 I1 I2 h1 h2 hno hB
          go_enter Try.func17, Try.ntmps17
          go_wp2_with (go_at_call 27; (with_reducible refine HM.out.mono ?_); rintro e w1 ⟨rfl, l1⟩; have L1 := Lib.hid l1; clear l1)
          go_ret
          exact ⟨rfl, HB.out.trans (L1.out.mono (by simp; omega))⟩
        | true =>
          cases hm2 : mayB row1 len2 n2 G with
          | false =>
            have HM := Lib.hid (may_is (c := c1) hm1 _ I1)
            have HM2 : Hid (∀ w1, Below ((w.alloc (.cells #[.int .i64 row1, .int .i64 len1, .slice A1 n1 c1] 48)).alloc (.cells #[.int .i64 row1, .int .i64 len2, .slice A2 n2 c2] 48)).heap.size ((w.alloc (.cells #[.int .i64 row1, .int .i64 len1, .slice A1 n1 c1] 48)).alloc (.cells #[.int .i64 row1, .int .i64 len2, .slice A2 n2 c2] 48)) w1 → Calls Try.prog 27 #[.agg #[.int .i64 row1, .int .i64 len2, .slice A2 n2 c2]] w1 fun e w' => e = .returned (.bool false) ∧ Below w1.heap.size w1 w') := Lib.hid fun w1 l => may_is (c := c2) hm2 w1 (I2.below l (Nat.le_refl _))
            clear hm1 hm2 I1 I2 h1 h2 hno hB
            go_enter Try.func17, Try.ntmps17
            go_wp2_with (first
              | (go_at_call 27; (with_reducible refine HM.out.mono ?_); rintro e w1 ⟨rfl, l1⟩; have q0 := bcell l1 (b := w.heap.size + 1) (o := 0) (v := .int .i64 row1) (by go_simp) (by simp); have q1 := bcell l1 (b := w.heap.size + 1) (o := 1) (v := .int .i64 len2) (by go_simp) (by simp); have q2 := bcell l1 (b := w.heap.size + 1) (o := 2) (v := .slice A2 n2 c2) (by go_simp) (by simp); have L1 := Lib.hid l1; clear l1)
              | (go_at_call 27; (with_reducible refine (HM2.out _ L1.out).mono ?_); rintro e w2 ⟨rfl, l2⟩; have L2 := Lib.hid l2; clear l2))
            go_ret
            exact ⟨rfl, (HB.out.trans (L1.out.mono (by simp; omega))).trans (L2.out.mono (by have := L1.out.size; simp at this; omega))⟩
          | true => exact absurd ⟨d1, d2, rfl, of_decide_eq_true hm1, of_decide_eq_true hm2⟩ hno
      · have k : (!row1 == row2) = true := by simpa using hr
        have k2 : (row1 == row2) = false := by simpa using hr
        have k3 : (row1 != row2) = true := by simpa using hr
        clear h1 h2 hno hB
        go_enter Try.func17, Try.ntmps17
        go_wp2
        go_ret
        exact ⟨rfl, HB.out⟩
    · have k : decide (1048576 < d) = true := decide_eq_true (by omega)
      clear h1 h2 hno d2 hB
      go_enter Try.func17, Try.ntmps17
      go_wp2
      go_ret
      exact ⟨rfl, HB.out⟩
  · have k : decide (d < 1) = true := decide_eq_true (by omega)
    clear h1 h2 hno d1 hB
    go_enter Try.func17, Try.ntmps17
    go_wp2
    go_ret
    exact ⟨rfl, HB.out⟩
end Go.Proofs.Ythpfaaindkkpcaa
