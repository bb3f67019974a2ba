/- The document's MayRect, Overlap, Holds, Join: the walks. (Written by wip/tools/genrefrect.py.) -/
import Derived.Test.YtehmdokcdnlcdaaGNearM
import Derived.Test.YtehmdokcdnlcdaaGJoin
namespace Go.Proofs.Ytehmdokcdnlcdaa
open Go.RowKit
set_option linter.unusedVariables false

set_option maxRecDepth 100000 in
set_option maxHeartbeats 4000000 in
theorem refOverlap_any (r s : Rc) (w : World) : Calls Try.prog 29 #[vR r, vR s] w fun e w' => e = .returned (.bool (decide (OvP r s))) ∧ Below w.heap.size w w' := by
  have hL := Lib.hid (show Below w.heap.size w ((w.alloc (.cells #[.int .i64 r.x0, .int .i64 r.y0, .int .i64 r.x1, .int .i64 r.y1] 36)).alloc (.cells #[.int .i64 s.x0, .int .i64 s.y0, .int .i64 s.x1, .int .i64 s.y1] 36)) from ((Below.refl w.heap.size w).alloc (Nat.le_refl _) _).alloc (by simp) _)
  by_cases h0 : r.x1 < s.x0
  · -- True
    go_enter Try.func29, Try.ntmps29
    go_wp2
    go_ret
    exact ⟨ret_b (by first | exact (decide_eq_true (by unfold OvP; omega)).symm | exact (decide_eq_false (by unfold OvP; omega)).symm | (rw [Bool.eq_iff_iff]; simp [OvP]; omega)), by first | exact hL.out | exact hL.out.drew⟩
  · -- False
    by_cases h1 : s.x1 < r.x0
    · -- True
      go_enter Try.func29, Try.ntmps29
      go_wp2
      go_ret
      exact ⟨ret_b (by first | exact (decide_eq_true (by unfold OvP; omega)).symm | exact (decide_eq_false (by unfold OvP; omega)).symm | (rw [Bool.eq_iff_iff]; simp [OvP]; omega)), by first | exact hL.out | exact hL.out.drew⟩
    · -- False
      by_cases h2 : r.y1 < s.y0
      · -- True
        go_enter Try.func29, Try.ntmps29
        go_wp2
        go_ret
        exact ⟨ret_b (by first | exact (decide_eq_true (by unfold OvP; omega)).symm | exact (decide_eq_false (by unfold OvP; omega)).symm | (rw [Bool.eq_iff_iff]; simp [OvP]; omega)), by first | exact hL.out | exact hL.out.drew⟩
      · -- False
        by_cases h3 : s.y1 < r.y0
        · -- True
          go_enter Try.func29, Try.ntmps29
          go_wp2
          go_ret
          exact ⟨ret_b (by first | exact (decide_eq_true (by unfold OvP; omega)).symm | exact (decide_eq_false (by unfold OvP; omega)).symm | (rw [Bool.eq_iff_iff]; simp [OvP]; omega)), by first | exact hL.out | exact hL.out.drew⟩
        · -- False
          go_enter Try.func29, Try.ntmps29
          go_wp2
          go_ret
          exact ⟨ret_b (by first | exact (decide_eq_true (by unfold OvP; omega)).symm | exact (decide_eq_false (by unfold OvP; omega)).symm | (rw [Bool.eq_iff_iff]; simp [OvP]; omega)), by first | exact hL.out | exact hL.out.drew⟩
set_option maxRecDepth 100000 in
set_option maxHeartbeats 4000000 in
theorem refHolds_any (r : Rc) (p : Pt) (w : World) : Calls Try.prog 35 #[vR r, .agg #[.int .i64 p.x, .int .i64 p.y]] w fun e w' => e = .returned (.bool (decide (r.x0 ≤ p.x ∧ p.x ≤ r.x1 ∧ r.y0 ≤ p.y ∧ p.y ≤ r.y1))) ∧ Below w.heap.size w w' := by
  have hL := Lib.hid (show Below w.heap.size w ((w.alloc (.cells #[.int .i64 r.x0, .int .i64 r.y0, .int .i64 r.x1, .int .i64 r.y1] 36)).alloc (.cells #[.int .i64 p.x, .int .i64 p.y] 23)) from ((Below.refl w.heap.size w).alloc (Nat.le_refl _) _).alloc (by simp) _)
  by_cases h0 : r.x0 ≤ p.x
  · -- True
    by_cases h1 : p.x ≤ r.x1
    · -- True
      by_cases h2 : r.y0 ≤ p.y
      · -- True
        by_cases h3 : p.y ≤ r.y1
        · -- True
          go_enter Try.func35, Try.ntmps35
          go_wp2
          go_ret
          exact ⟨ret_b (by first | exact (decide_eq_true (by skip; omega)).symm | exact (decide_eq_false (by skip; omega)).symm | (rw [Bool.eq_iff_iff]; simp; omega)), by first | exact hL.out | exact hL.out.drew⟩
        · -- False
          go_enter Try.func35, Try.ntmps35
          go_wp2
          go_ret
          exact ⟨ret_b (by first | exact (decide_eq_true (by skip; omega)).symm | exact (decide_eq_false (by skip; omega)).symm | (rw [Bool.eq_iff_iff]; simp; omega)), by first | exact hL.out | exact hL.out.drew⟩
      · -- False
        go_enter Try.func35, Try.ntmps35
        go_wp2
        go_ret
        exact ⟨ret_b (by first | exact (decide_eq_true (by skip; omega)).symm | exact (decide_eq_false (by skip; omega)).symm | (rw [Bool.eq_iff_iff]; simp; omega)), by first | exact hL.out | exact hL.out.drew⟩
    · -- False
      go_enter Try.func35, Try.ntmps35
      go_wp2
      go_ret
      exact ⟨ret_b (by first | exact (decide_eq_true (by skip; omega)).symm | exact (decide_eq_false (by skip; omega)).symm | (rw [Bool.eq_iff_iff]; simp; omega)), by first | exact hL.out | exact hL.out.drew⟩
  · -- False
    go_enter Try.func35, Try.ntmps35
    go_wp2
    go_ret
    exact ⟨ret_b (by first | exact (decide_eq_true (by skip; omega)).symm | exact (decide_eq_false (by skip; omega)).symm | (rw [Bool.eq_iff_iff]; simp; omega)), by first | exact hL.out | exact hL.out.drew⟩
set_option maxRecDepth 100000 in
set_option maxHeartbeats 4000000 in
theorem refJoin_any (r s : Rc) (w : World) : Calls Try.prog 31 #[vR r, vR s] w fun e w' => e = .returned (vR (joinR r s)) ∧ Below w.heap.size w w' := by
  have hL := Lib.hid (show Below w.heap.size w ((w.alloc (.cells #[.int .i64 r.x0, .int .i64 r.y0, .int .i64 r.x1, .int .i64 r.y1] 36)).alloc (.cells #[.int .i64 s.x0, .int .i64 s.y0, .int .i64 s.x1, .int .i64 s.y1] 36)) from ((Below.refl w.heap.size w).alloc (Nat.le_refl _) _).alloc (by simp) _)
  show Calls _ _ _ _ fun e w' => e = .returned (.agg #[.int .i64 (min r.x0 s.x0), .int .i64 (min r.y0 s.y0), .int .i64 (max r.x1 s.x1), .int .i64 (max r.y1 s.y1)]) ∧ Below w.heap.size w w'
  by_cases h0 : s.x0 < r.x0
  · -- True
    by_cases h1 : s.y0 < r.y0
    · -- True
      by_cases h2 : r.x1 < s.x1
      · -- True
        by_cases h3 : r.y1 < s.y1
        · -- True
          have HE := Lib.hid (show (Ending.returned (.agg #[.int .i64 s.x0, .int .i64 s.y0, .int .i64 s.x1, .int .i64 s.y1]) : Ending) = .returned (.agg #[.int .i64 (min r.x0 s.x0), .int .i64 (min r.y0 s.y0), .int .i64 (max r.x1 s.x1), .int .i64 (max r.y1 s.y1)]) by rw [show min r.x0 s.x0 = s.x0 by omega, show min r.y0 s.y0 = s.y0 by omega, show max r.x1 s.x1 = s.x1 by omega, show max r.y1 s.y1 = s.y1 by omega])
          go_enter Try.func31, Try.ntmps31
          go_wp2
          exact bodyPost_ret (v := .agg #[.int .i64 s.x0, .int .i64 s.y0, .int .i64 s.x1, .int .i64 s.y1]) (by simp [results, Try.results31, go_sem]) rfl ⟨HE.out, (((Below.refl _ _).alloc (Nat.le_refl _) _).alloc (by simp) _).alloc (by simp; omega) _⟩
        · -- False
          have HE := Lib.hid (show (Ending.returned (.agg #[.int .i64 s.x0, .int .i64 s.y0, .int .i64 s.x1, .int .i64 r.y1]) : Ending) = .returned (.agg #[.int .i64 (min r.x0 s.x0), .int .i64 (min r.y0 s.y0), .int .i64 (max r.x1 s.x1), .int .i64 (max r.y1 s.y1)]) by rw [show min r.x0 s.x0 = s.x0 by omega, show min r.y0 s.y0 = s.y0 by omega, show max r.x1 s.x1 = s.x1 by omega, show max r.y1 s.y1 = r.y1 by omega])
          go_enter Try.func31, Try.ntmps31
          go_wp2
          exact bodyPost_ret (v := .agg #[.int .i64 s.x0, .int .i64 s.y0, .int .i64 s.x1, .int .i64 r.y1]) (by simp [results, Try.results31, go_sem]) rfl ⟨HE.out, (((Below.refl _ _).alloc (Nat.le_refl _) _).alloc (by simp) _).alloc (by simp; omega) _⟩
      · -- False
        by_cases h3 : r.y1 < s.y1
        · -- True
          have HE := Lib.hid (show (Ending.returned (.agg #[.int .i64 s.x0, .int .i64 s.y0, .int .i64 r.x1, .int .i64 s.y1]) : Ending) = .returned (.agg #[.int .i64 (min r.x0 s.x0), .int .i64 (min r.y0 s.y0), .int .i64 (max r.x1 s.x1), .int .i64 (max r.y1 s.y1)]) by rw [show min r.x0 s.x0 = s.x0 by omega, show min r.y0 s.y0 = s.y0 by omega, show max r.x1 s.x1 = r.x1 by omega, show max r.y1 s.y1 = s.y1 by omega])
          go_enter Try.func31, Try.ntmps31
          go_wp2
          exact bodyPost_ret (v := .agg #[.int .i64 s.x0, .int .i64 s.y0, .int .i64 r.x1, .int .i64 s.y1]) (by simp [results, Try.results31, go_sem]) rfl ⟨HE.out, (((Below.refl _ _).alloc (Nat.le_refl _) _).alloc (by simp) _).alloc (by simp; omega) _⟩
        · -- False
          have HE := Lib.hid (show (Ending.returned (.agg #[.int .i64 s.x0, .int .i64 s.y0, .int .i64 r.x1, .int .i64 r.y1]) : Ending) = .returned (.agg #[.int .i64 (min r.x0 s.x0), .int .i64 (min r.y0 s.y0), .int .i64 (max r.x1 s.x1), .int .i64 (max r.y1 s.y1)]) by rw [show min r.x0 s.x0 = s.x0 by omega, show min r.y0 s.y0 = s.y0 by omega, show max r.x1 s.x1 = r.x1 by omega, show max r.y1 s.y1 = r.y1 by omega])
          go_enter Try.func31, Try.ntmps31
          go_wp2
          exact bodyPost_ret (v := .agg #[.int .i64 s.x0, .int .i64 s.y0, .int .i64 r.x1, .int .i64 r.y1]) (by simp [results, Try.results31, go_sem]) rfl ⟨HE.out, (((Below.refl _ _).alloc (Nat.le_refl _) _).alloc (by simp) _).alloc (by simp; omega) _⟩
    · -- False
      by_cases h2 : r.x1 < s.x1
      · -- True
        by_cases h3 : r.y1 < s.y1
        · -- True
          have HE := Lib.hid (show (Ending.returned (.agg #[.int .i64 s.x0, .int .i64 r.y0, .int .i64 s.x1, .int .i64 s.y1]) : Ending) = .returned (.agg #[.int .i64 (min r.x0 s.x0), .int .i64 (min r.y0 s.y0), .int .i64 (max r.x1 s.x1), .int .i64 (max r.y1 s.y1)]) by rw [show min r.x0 s.x0 = s.x0 by omega, show min r.y0 s.y0 = r.y0 by omega, show max r.x1 s.x1 = s.x1 by omega, show max r.y1 s.y1 = s.y1 by omega])
          go_enter Try.func31, Try.ntmps31
          go_wp2
          exact bodyPost_ret (v := .agg #[.int .i64 s.x0, .int .i64 r.y0, .int .i64 s.x1, .int .i64 s.y1]) (by simp [results, Try.results31, go_sem]) rfl ⟨HE.out, (((Below.refl _ _).alloc (Nat.le_refl _) _).alloc (by simp) _).alloc (by simp; omega) _⟩
        · -- False
          have HE := Lib.hid (show (Ending.returned (.agg #[.int .i64 s.x0, .int .i64 r.y0, .int .i64 s.x1, .int .i64 r.y1]) : Ending) = .returned (.agg #[.int .i64 (min r.x0 s.x0), .int .i64 (min r.y0 s.y0), .int .i64 (max r.x1 s.x1), .int .i64 (max r.y1 s.y1)]) by rw [show min r.x0 s.x0 = s.x0 by omega, show min r.y0 s.y0 = r.y0 by omega, show max r.x1 s.x1 = s.x1 by omega, show max r.y1 s.y1 = r.y1 by omega])
          go_enter Try.func31, Try.ntmps31
          go_wp2
          exact bodyPost_ret (v := .agg #[.int .i64 s.x0, .int .i64 r.y0, .int .i64 s.x1, .int .i64 r.y1]) (by simp [results, Try.results31, go_sem]) rfl ⟨HE.out, (((Below.refl _ _).alloc (Nat.le_refl _) _).alloc (by simp) _).alloc (by simp; omega) _⟩
      · -- False
        by_cases h3 : r.y1 < s.y1
        · -- True
          have HE := Lib.hid (show (Ending.returned (.agg #[.int .i64 s.x0, .int .i64 r.y0, .int .i64 r.x1, .int .i64 s.y1]) : Ending) = .returned (.agg #[.int .i64 (min r.x0 s.x0), .int .i64 (min r.y0 s.y0), .int .i64 (max r.x1 s.x1), .int .i64 (max r.y1 s.y1)]) by rw [show min r.x0 s.x0 = s.x0 by omega, show min r.y0 s.y0 = r.y0 by omega, show max r.x1 s.x1 = r.x1 by omega, show max r.y1 s.y1 = s.y1 by omega])
          go_enter Try.func31, Try.ntmps31
          go_wp2
          exact bodyPost_ret (v := .agg #[.int .i64 s.x0, .int .i64 r.y0, .int .i64 r.x1, .int .i64 s.y1]) (by simp [results, Try.results31, go_sem]) rfl ⟨HE.out, (((Below.refl _ _).alloc (Nat.le_refl _) _).alloc (by simp) _).alloc (by simp; omega) _⟩
        · -- False
          have HE := Lib.hid (show (Ending.returned (.agg #[.int .i64 s.x0, .int .i64 r.y0, .int .i64 r.x1, .int .i64 r.y1]) : Ending) = .returned (.agg #[.int .i64 (min r.x0 s.x0), .int .i64 (min r.y0 s.y0), .int .i64 (max r.x1 s.x1), .int .i64 (max r.y1 s.y1)]) by rw [show min r.x0 s.x0 = s.x0 by omega, show min r.y0 s.y0 = r.y0 by omega, show max r.x1 s.x1 = r.x1 by omega, show max r.y1 s.y1 = r.y1 by omega])
          go_enter Try.func31, Try.ntmps31
          go_wp2
          exact bodyPost_ret (v := .agg #[.int .i64 s.x0, .int .i64 r.y0, .int .i64 r.x1, .int .i64 r.y1]) (by simp [results, Try.results31, go_sem]) rfl ⟨HE.out, (((Below.refl _ _).alloc (Nat.le_refl _) _).alloc (by simp) _).alloc (by simp; omega) _⟩
  · -- False
    by_cases h1 : s.y0 < r.y0
    · -- True
      by_cases h2 : r.x1 < s.x1
      · -- True
        by_cases h3 : r.y1 < s.y1
        · -- True
          have HE := Lib.hid (show (Ending.returned (.agg #[.int .i64 r.x0, .int .i64 s.y0, .int .i64 s.x1, .int .i64 s.y1]) : Ending) = .returned (.agg #[.int .i64 (min r.x0 s.x0), .int .i64 (min r.y0 s.y0), .int .i64 (max r.x1 s.x1), .int .i64 (max r.y1 s.y1)]) by rw [show min r.x0 s.x0 = r.x0 by omega, show min r.y0 s.y0 = s.y0 by omega, show max r.x1 s.x1 = s.x1 by omega, show max r.y1 s.y1 = s.y1 by omega])
          go_enter Try.func31, Try.ntmps31
          go_wp2
          exact bodyPost_ret (v := .agg #[.int .i64 r.x0, .int .i64 s.y0, .int .i64 s.x1, .int .i64 s.y1]) (by simp [results, Try.results31, go_sem]) rfl ⟨HE.out, (((Below.refl _ _).alloc (Nat.le_refl _) _).alloc (by simp) _).alloc (by simp; omega) _⟩
        · -- False
          have HE := Lib.hid (show (Ending.returned (.agg #[.int .i64 r.x0, .int .i64 s.y0, .int .i64 s.x1, .int .i64 r.y1]) : Ending) = .returned (.agg #[.int .i64 (min r.x0 s.x0), .int .i64 (min r.y0 s.y0), .int .i64 (max r.x1 s.x1), .int .i64 (max r.y1 s.y1)]) by rw [show min r.x0 s.x0 = r.x0 by omega, show min r.y0 s.y0 = s.y0 by omega, show max r.x1 s.x1 = s.x1 by omega, show max r.y1 s.y1 = r.y1 by omega])
          go_enter Try.func31, Try.ntmps31
          go_wp2
          exact bodyPost_ret (v := .agg #[.int .i64 r.x0, .int .i64 s.y0, .int .i64 s.x1, .int .i64 r.y1]) (by simp [results, Try.results31, go_sem]) rfl ⟨HE.out, (((Below.refl _ _).alloc (Nat.le_refl _) _).alloc (by simp) _).alloc (by simp; omega) _⟩
      · -- False
        by_cases h3 : r.y1 < s.y1
        · -- True
          have HE := Lib.hid (show (Ending.returned (.agg #[.int .i64 r.x0, .int .i64 s.y0, .int .i64 r.x1, .int .i64 s.y1]) : Ending) = .returned (.agg #[.int .i64 (min r.x0 s.x0), .int .i64 (min r.y0 s.y0), .int .i64 (max r.x1 s.x1), .int .i64 (max r.y1 s.y1)]) by rw [show min r.x0 s.x0 = r.x0 by omega, show min r.y0 s.y0 = s.y0 by omega, show max r.x1 s.x1 = r.x1 by omega, show max r.y1 s.y1 = s.y1 by omega])
          go_enter Try.func31, Try.ntmps31
          go_wp2
          exact bodyPost_ret (v := .agg #[.int .i64 r.x0, .int .i64 s.y0, .int .i64 r.x1, .int .i64 s.y1]) (by simp [results, Try.results31, go_sem]) rfl ⟨HE.out, (((Below.refl _ _).alloc (Nat.le_refl _) _).alloc (by simp) _).alloc (by simp; omega) _⟩
        · -- False
          have HE := Lib.hid (show (Ending.returned (.agg #[.int .i64 r.x0, .int .i64 s.y0, .int .i64 r.x1, .int .i64 r.y1]) : Ending) = .returned (.agg #[.int .i64 (min r.x0 s.x0), .int .i64 (min r.y0 s.y0), .int .i64 (max r.x1 s.x1), .int .i64 (max r.y1 s.y1)]) by rw [show min r.x0 s.x0 = r.x0 by omega, show min r.y0 s.y0 = s.y0 by omega, show max r.x1 s.x1 = r.x1 by omega, show max r.y1 s.y1 = r.y1 by omega])
          go_enter Try.func31, Try.ntmps31
          go_wp2
          exact bodyPost_ret (v := .agg #[.int .i64 r.x0, .int .i64 s.y0, .int .i64 r.x1, .int .i64 r.y1]) (by simp [results, Try.results31, go_sem]) rfl ⟨HE.out, (((Below.refl _ _).alloc (Nat.le_refl _) _).alloc (by simp) _).alloc (by simp; omega) _⟩
    · -- False
      by_cases h2 : r.x1 < s.x1
      · -- True
        by_cases h3 : r.y1 < s.y1
        · -- True
          have HE := Lib.hid (show (Ending.returned (.agg #[.int .i64 r.x0, .int .i64 r.y0, .int .i64 s.x1, .int .i64 s.y1]) : Ending) = .returned (.agg #[.int .i64 (min r.x0 s.x0), .int .i64 (min r.y0 s.y0), .int .i64 (max r.x1 s.x1), .int .i64 (max r.y1 s.y1)]) by rw [show min r.x0 s.x0 = r.x0 by omega, show min r.y0 s.y0 = r.y0 by omega, show max r.x1 s.x1 = s.x1 by omega, show max r.y1 s.y1 = s.y1 by omega])
          go_enter Try.func31, Try.ntmps31
          go_wp2
          exact bodyPost_ret (v := .agg #[.int .i64 r.x0, .int .i64 r.y0, .int .i64 s.x1, .int .i64 s.y1]) (by simp [results, Try.results31, go_sem]) rfl ⟨HE.out, (((Below.refl _ _).alloc (Nat.le_refl _) _).alloc (by simp) _).alloc (by simp; omega) _⟩
        · -- False
          have HE := Lib.hid (show (Ending.returned (.agg #[.int .i64 r.x0, .int .i64 r.y0, .int .i64 s.x1, .int .i64 r.y1]) : Ending) = .returned (.agg #[.int .i64 (min r.x0 s.x0), .int .i64 (min r.y0 s.y0), .int .i64 (max r.x1 s.x1), .int .i64 (max r.y1 s.y1)]) by rw [show min r.x0 s.x0 = r.x0 by omega, show min r.y0 s.y0 = r.y0 by omega, show max r.x1 s.x1 = s.x1 by omega, show max r.y1 s.y1 = r.y1 by omega])
          go_enter Try.func31, Try.ntmps31
          go_wp2
          exact bodyPost_ret (v := .agg #[.int .i64 r.x0, .int .i64 r.y0, .int .i64 s.x1, .int .i64 r.y1]) (by simp [results, Try.results31, go_sem]) rfl ⟨HE.out, (((Below.refl _ _).alloc (Nat.le_refl _) _).alloc (by simp) _).alloc (by simp; omega) _⟩
      · -- False
        by_cases h3 : r.y1 < s.y1
        · -- True
          have HE := Lib.hid (show (Ending.returned (.agg #[.int .i64 r.x0, .int .i64 r.y0, .int .i64 r.x1, .int .i64 s.y1]) : Ending) = .returned (.agg #[.int .i64 (min r.x0 s.x0), .int .i64 (min r.y0 s.y0), .int .i64 (max r.x1 s.x1), .int .i64 (max r.y1 s.y1)]) by rw [show min r.x0 s.x0 = r.x0 by omega, show min r.y0 s.y0 = r.y0 by omega, show max r.x1 s.x1 = r.x1 by omega, show max r.y1 s.y1 = s.y1 by omega])
          go_enter Try.func31, Try.ntmps31
          go_wp2
          exact bodyPost_ret (v := .agg #[.int .i64 r.x0, .int .i64 r.y0, .int .i64 r.x1, .int .i64 s.y1]) (by simp [results, Try.results31, go_sem]) rfl ⟨HE.out, (((Below.refl _ _).alloc (Nat.le_refl _) _).alloc (by simp) _).alloc (by simp; omega) _⟩
        · -- False
          have HE := Lib.hid (show (Ending.returned (.agg #[.int .i64 r.x0, .int .i64 r.y0, .int .i64 r.x1, .int .i64 r.y1]) : Ending) = .returned (.agg #[.int .i64 (min r.x0 s.x0), .int .i64 (min r.y0 s.y0), .int .i64 (max r.x1 s.x1), .int .i64 (max r.y1 s.y1)]) by rw [show min r.x0 s.x0 = r.x0 by omega, show min r.y0 s.y0 = r.y0 by omega, show max r.x1 s.x1 = r.x1 by omega, show max r.y1 s.y1 = r.y1 by omega])
          go_enter Try.func31, Try.ntmps31
          go_wp2
          exact bodyPost_ret (v := .agg #[.int .i64 r.x0, .int .i64 r.y0, .int .i64 r.x1, .int .i64 r.y1]) (by simp [results, Try.results31, go_sem]) rfl ⟨HE.out, (((Below.refl _ _).alloc (Nat.le_refl _) _).alloc (by simp) _).alloc (by simp; omega) _⟩
end Go.Proofs.Ytehmdokcdnlcdaa
