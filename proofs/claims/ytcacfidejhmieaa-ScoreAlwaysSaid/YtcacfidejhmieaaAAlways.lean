/- score: the law ScoreAlways walked. -/
import Derived.Test.YtcacfidejhmieaaALaws
import Derived.Test.YtcacfidejhmieaaAMono
import Derived.Deep.QuietTactic
import Derived.BigQuiet
namespace Go.Proofs.Ytcacfidejhmieaa
open Go.RowKit
set_option linter.unusedVariables false
set_option linter.unusedSimpArgs false

open Go.Shelf
attribute [local go_sem] Oper.semAt_some
theorem below_drewN (n k : Nat) (w : World) : Below n w (w.drewN k) where
  os := rfl
  tape := rfl
  output := rfl
  size := Nat.le_refl _
  block _ _ := rfl
theorem score_is {T L df tf len : Int} {v : Int} (h : scoreV T L df tf len = v) (w : World) : Calls Try.prog 17 #[.agg #[.int .i64 T, .int .i64 L], .int .i64 df, .int .i64 tf, .int .i64 len] w fun e w' => e = .returned (.int .i64 v) ∧ Below w.heap.size w w' := by
  rw [← h]; exact score_any T L df tf len w
theorem right_is {T L df tf len : Int} {v : Bool} (h : rightB T L df tf len = v) (w : World) : Calls Try.prog 18 #[.agg #[.int .i64 T, .int .i64 L], .int .i64 df, .int .i64 tf, .int .i64 len] w fun e w' => e = .returned (.bool v) ∧ Below w.heap.size w w' := by
  rw [← h]; exact right_any T L df tf len w
theorem right_T {T L df tf len : Int} (h : rightB T L df tf len = true) : 1 ≤ T ∧ T ≤ 4294967296 := by
  unfold rightB at h
  rw [Bool.and_eq_true] at h
  have := known_yes h.1
  omega
set_option maxHeartbeats 8000000 in
theorem scoreAlways_walk (T L df tf len : Int) (w : World) : Calls Try.prog 7 #[.agg #[.int .i64 T, .int .i64 L], .int .i64 df, .agg #[.int .i64 tf, .int .i64 len]] w fun e w' => e = .returned (.bool true) ∧ Below w.heap.size w w' := by
  go_enter Try.func7, Try.ntmps7
  go_wp2_with fail
  go_quiet (fail)
  have SB : Box2 w T L (((w.alloc (.cells #[.int .i64 T, .int .i64 L] 27)).alloc (.cells #[.int .i64 tf, .int .i64 len] 28)).drewN nq) := ⟨(((Below.refl _ _).alloc (Nat.le_refl _) _).alloc (by simp) _).trans (below_drewN _ _ _), by go_simp, by go_simp⟩
  obtain ⟨_, c0, d0⟩ := id SB
  generalize (((w.alloc (.cells #[.int .i64 T, .int .i64 L] 27)).alloc (.cells #[.int .i64 tf, .int .i64 len] 28)).drewN nq) = B at SB c0 d0 ⊢
  have SB0 := Lib.hid SB
  clear SB
  cases hr : rightB T L df tf len with
  | true =>
    have hs1 := score_right hr
    obtain ⟨t1, t2⟩ := right_T hr
    have HR := Lib.hid (right_is hr)
    have HS := Lib.hid (score_is (T := T) (L := L) (df := df) (tf := tf) (len := len) rfl)
    have HW := Lib.hid (weight_at 257 T L T (weight_all t1 t2))
    generalize scoreV T L df tf len = s at *
    clear hr
    go_wp2_with (first
        | (go_at_call 17; (with_reducible refine (HS.out _).mono ?_); rintro e w1 ⟨rfl, l1⟩; have SB1 := Lib.hid (box2_keep SB0.out l1); obtain ⟨_, c1, d1⟩ := id SB1.out; clear l1)
        | (go_at_call 18; (with_reducible refine (HR.out _).mono ?_); rintro e w2 ⟨rfl, l1⟩; have SB2 := Lib.hid (box2_keep SB1.out l1); obtain ⟨_, c2, d2⟩ := id SB2.out; clear l1)
        | (go_at_call 15; (with_reducible refine (HW.out _).mono ?_); rintro e w3 ⟨rfl, l1⟩; have SB3 := Lib.hid (box2_keep SB2.out l1); clear l1)
        | (go_at_call 10; (with_reducible refine (awake_any _).mono ?_); rintro e w4 ⟨rfl, l1⟩; have L4 := Lib.hid l1; clear l1))
    go_ret
    exact ⟨rfl, SB3.out.1.trans (L4.out.mono SB3.out.1.size)⟩
  | false =>
    have HR := Lib.hid (right_is hr)
    have HS := Lib.hid (score_is (score_wrong hr))
    clear hr
    by_cases t1 : 1 ≤ T
    · by_cases t2 : T ≤ 4294967296
      · have HW := Lib.hid (weight_at 257 T L T (weight_all t1 t2))
        go_wp2_with (first
        | (go_at_call 17; (with_reducible refine (HS.out _).mono ?_); rintro e w1 ⟨rfl, l1⟩; have SB1 := Lib.hid (box2_keep SB0.out l1); obtain ⟨_, c1, d1⟩ := id SB1.out; clear l1)
        | (go_at_call 18; (with_reducible refine (HR.out _).mono ?_); rintro e w2 ⟨rfl, l1⟩; have SB2 := Lib.hid (box2_keep SB1.out l1); obtain ⟨_, c2, d2⟩ := id SB2.out; clear l1)
        | (go_at_call 15; (with_reducible refine (HW.out _).mono ?_); rintro e w3 ⟨rfl, l1⟩; have SB3 := Lib.hid (box2_keep SB2.out l1); clear l1)
        | (go_at_call 10; (with_reducible refine (awake_any _).mono ?_); rintro e w4 ⟨rfl, l1⟩; have L4 := Lib.hid l1; clear l1))
        go_ret
        exact ⟨rfl, SB3.out.1.trans (L4.out.mono SB3.out.1.size)⟩
      · have k2 : decide (T ≤ 4294967296) = false := decide_eq_false t2
        have HW := Lib.hid (weight_any T L T)
        clear t2
        go_wp2_with (first
        | (go_at_call 17; (with_reducible refine (HS.out _).mono ?_); rintro e w1 ⟨rfl, l1⟩; have SB1 := Lib.hid (box2_keep SB0.out l1); obtain ⟨_, c1, d1⟩ := id SB1.out; clear l1)
        | (go_at_call 18; (with_reducible refine (HR.out _).mono ?_); rintro e w2 ⟨rfl, l1⟩; have SB2 := Lib.hid (box2_keep SB1.out l1); obtain ⟨_, c2, d2⟩ := id SB2.out; clear l1)
        | (go_at_call 15; (with_reducible refine (HW.out _).mono ?_); rintro e w3 ⟨rfl, l1⟩; have SB3 := Lib.hid (box2_keep SB2.out l1); clear l1)
        | (go_at_call 10; (with_reducible refine (awake_any _).mono ?_); rintro e w4 ⟨rfl, l1⟩; have L4 := Lib.hid l1; clear l1))
        go_ret
        exact ⟨rfl, SB2.out.1.trans (L4.out.mono SB2.out.1.size)⟩
    · have k1 : decide (1 ≤ T) = false := decide_eq_false t1
      have HW := Lib.hid (weight_any T L T)
      clear t1
      go_wp2_with (first
        | (go_at_call 17; (with_reducible refine (HS.out _).mono ?_); rintro e w1 ⟨rfl, l1⟩; have SB1 := Lib.hid (box2_keep SB0.out l1); obtain ⟨_, c1, d1⟩ := id SB1.out; clear l1)
        | (go_at_call 18; (with_reducible refine (HR.out _).mono ?_); rintro e w2 ⟨rfl, l1⟩; have SB2 := Lib.hid (box2_keep SB1.out l1); obtain ⟨_, c2, d2⟩ := id SB2.out; clear l1)
        | (go_at_call 15; (with_reducible refine (HW.out _).mono ?_); rintro e w3 ⟨rfl, l1⟩; have SB3 := Lib.hid (box2_keep SB2.out l1); clear l1)
        | (go_at_call 10; (with_reducible refine (awake_any _).mono ?_); rintro e w4 ⟨rfl, l1⟩; have L4 := Lib.hid l1; clear l1))
      go_ret
      exact ⟨rfl, SB2.out.1.trans (L4.out.mono SB2.out.1.size)⟩
end Go.Proofs.Ytcacfidejhmieaa
