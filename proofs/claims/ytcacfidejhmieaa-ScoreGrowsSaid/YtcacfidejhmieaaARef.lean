/- score: the document's own Known, Counted, Weight, Share. -/
import Derived.Test.YtcacfidejhmieaaAAwake
namespace Go.Proofs.Ytcacfidejhmieaa
open Go.RowKit
set_option linter.unusedVariables false
set_option linter.unusedSimpArgs false

open Go.Shelf
attribute [local go_sem] Oper.semAt_some
set_option maxHeartbeats 4000000 in
theorem refKnown_any (T L df : Int) (w : World) : Calls Try.prog 11 #[.agg #[.int .i64 T, .int .i64 L], .int .i64 df] w fun e w' => e = .returned (.bool (knownB T df)) ∧ Below w.heap.size w w' := by
  go_enter Try.func11, Try.ntmps11
  go_wp2
  all_goals
    go_ret
    exact ⟨ret_b (by unfold knownB; first | exact (decide_eq_true (by omega)).symm | exact (decide_eq_false (by omega)).symm | exact decide_eq_decide.2 (by omega)), (Below.refl _ _).alloc (Nat.le_refl _) _⟩
set_option maxHeartbeats 4000000 in
theorem refCounted_any (T L tf len : Int) (w : World) : Calls Try.prog 12 #[.agg #[.int .i64 T, .int .i64 L], .int .i64 tf, .int .i64 len] w fun e w' => e = .returned (.bool (countedB T L tf len)) ∧ Below w.heap.size w w' := by
  go_enter Try.func12, Try.ntmps12
  go_wp2
  all_goals
    go_ret
    exact ⟨ret_b (by unfold countedB; first | exact (decide_eq_true (by omega)).symm | exact (decide_eq_false (by omega)).symm | exact decide_eq_decide.2 (by omega)), (Below.refl _ _).alloc (Nat.le_refl _) _⟩
theorem refKnown_is {T df : Int} {v : Bool} (h : knownB T df = v) (L : Int) (w : World) : Calls Try.prog 11 #[.agg #[.int .i64 T, .int .i64 L], .int .i64 df] w fun e w' => e = .returned (.bool v) ∧ Below w.heap.size w w' := by
  rw [← h]; exact refKnown_any T L df w
theorem refCounted_is {T L tf len : Int} {v : Bool} (h : countedB T L tf len = v) (w : World) : Calls Try.prog 12 #[.agg #[.int .i64 T, .int .i64 L], .int .i64 tf, .int .i64 len] w fun e w' => e = .returned (.bool v) ∧ Below w.heap.size w w' := by
  rw [← h]; exact refCounted_any T L tf len w
set_option maxHeartbeats 4000000 in
theorem refShare_no {T L tf len : Int} (hk : countedB T L tf len = false) (w : World) : Calls Try.prog 14 #[.agg #[.int .i64 T, .int .i64 L], .int .i64 tf, .int .i64 len] w fun e w' => e = .returned (.int .i64 (shareV T L tf len)) ∧ Below w.heap.size w w' := by
  have HV := Lib.hid (show shareV T L tf len = 0 by unfold shareV; rw [if_neg (by rw [hk]; simp)])
  have HC := Lib.hid (refCounted_is hk)
  clear hk
  go_enter Try.func14, Try.ntmps14
  go_wp2_with (go_at_call 12; (with_reducible refine (HC.out _).mono ?_); rintro e w' ⟨rfl, hb1⟩; have HB1 := Lib.hid hb1; clear hb1)
  go_ret
  exact ⟨ret_i HV.out.symm, ((Below.refl _ _).alloc (Nat.le_refl _) _).trans (HB1.out.mono (by simp))⟩
set_option maxHeartbeats 4000000 in
theorem refShare_yes {T L tf len : Int} (hk : countedB T L tf len = true) (w : World) : Calls Try.prog 14 #[.agg #[.int .i64 T, .int .i64 L], .int .i64 tf, .int .i64 len] w fun e w' => e = .returned (.int .i64 (shareV T L tf len)) ∧ Below w.heap.size w w' := by
  have hv : shareV T L tf len = 1 + 2200000 * tf / (1000 * tf + 300 + 900 * len * T / max L 1) := by unfold shareV; rw [if_pos hk]
  have HC := Lib.hid (refCounted_is hk)
  obtain ⟨a1, a2, a3, a4, a5, a6, a7, a8⟩ := counted_yes hk
  obtain ⟨b1, b2, b3, b4, b5⟩ := share_parts hk
  by_cases hL : L < 1
  · have e0 : max L 1 = 1 := by omega
    rw [e0] at hv b3 b4 b5
    rw [Int.ediv_one] at hv b4 b5
    have HV := Lib.hid hv
    have w1 : IntKind.i64.wrap (900 * len * T) = 900 * len * T := IntWalk.i64_in _ (by omega)
    clear hk hv e0
    go_enter Try.func14, Try.ntmps14
    go_wp2_with (go_at_call 12; (with_reducible refine (HC.out _).mono ?_); rintro e w1 ⟨rfl, hb1⟩; have hc := bcell hb1 (b := w.heap.size) (o := 0) (v := .int .i64 T) (by go_simp) (by simp); have hd := bcell hb1 (b := w.heap.size) (o := 1) (v := .int .i64 L) (by go_simp) (by simp); have HB1 := Lib.hid hb1; clear hb1)
    go_ret
    have hbd := share_bd T L tf len
    rw [HV.out] at hbd
    exact ⟨ret_i (by rw [HV.out]; exact IntWalk.wrap64_in _ (by omega)), ((Below.refl _ _).alloc (Nat.le_refl _) _).trans (HB1.out.mono (by simp))⟩
  · have e0 : max L 1 = L := by omega
    rw [e0] at hv b3 b4 b5
    have HV := Lib.hid hv
    have w1 : IntKind.i64.wrap (900 * len * T) = 900 * len * T := IntWalk.i64_in _ (by omega)
    clear hk hv e0
    go_enter Try.func14, Try.ntmps14
    go_wp2_with (go_at_call 12; (with_reducible refine (HC.out _).mono ?_); rintro e w1 ⟨rfl, hb1⟩; have hc := bcell hb1 (b := w.heap.size) (o := 0) (v := .int .i64 T) (by go_simp) (by simp); have hd := bcell hb1 (b := w.heap.size) (o := 1) (v := .int .i64 L) (by go_simp) (by simp); have HB1 := Lib.hid hb1; clear hb1)
    go_ret
    have hbd := share_bd T L tf len
    rw [HV.out] at hbd
    exact ⟨ret_i (by rw [HV.out]; exact IntWalk.wrap64_in _ (by omega)), ((Below.refl _ _).alloc (Nat.le_refl _) _).trans (HB1.out.mono (by simp))⟩
theorem refShare_any (T L tf len : Int) (w : World) : Calls Try.prog 14 #[.agg #[.int .i64 T, .int .i64 L], .int .i64 tf, .int .i64 len] w fun e w' => e = .returned (.int .i64 (shareV T L tf len)) ∧ Below w.heap.size w w' := by
  cases hk : countedB T L tf len with
  | true => exact refShare_yes hk w
  | false => exact refShare_no hk w
end Go.Proofs.Ytcacfidejhmieaa
