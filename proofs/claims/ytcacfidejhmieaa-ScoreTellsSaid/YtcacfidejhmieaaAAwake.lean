/- score: the law's awake; the document's own answers. -/
import Derived.Test.YtcacfidejhmieaaATells
namespace Go.Proofs.Ytcacfidejhmieaa
open Go.RowKit
set_option linter.unusedVariables false
set_option linter.unusedSimpArgs false

open Go.Shelf
attribute [local go_sem] Oper.semAt_some
theorem log_at (n : Nat) (m v : Int) (hm : (n : Int) = m) (hn : n < 18446744073709551616) (h : (logN n : Int) = v) (w : World) : Calls Try.prog 8 #[.int .u64 m] w fun e w' => e = .returned (.int .i64 v) ∧ Below w.heap.size w w' := by
  rw [← h, ← hm]; exact log_any n hn w
theorem weight_at (v : Int) (T L df : Int) (h : weightV T df = v) (w : World) : Calls Try.prog 15 #[.agg #[.int .i64 T, .int .i64 L], .int .i64 df] w fun e w' => e = .returned (.int .i64 v) ∧ Below w.heap.size w w' := by
  rw [← h]; exact weight_any T L df w
theorem share_at (v : Int) (T L tf len : Int) (h : shareV T L tf len = v) (w : World) : Calls Try.prog 16 #[.agg #[.int .i64 T, .int .i64 L], .int .i64 tf, .int .i64 len] w fun e w' => e = .returned (.int .i64 v) ∧ Below w.heap.size w w' := by
  rw [← h]; exact share_any T L tf len w
set_option maxHeartbeats 4000000 in
theorem awake_any (w : World) : Calls Try.prog 10 #[] w fun e w' => e = .returned (.bool true) ∧ Below w.heap.size w w' := by
  have H1 := Lib.hid (log_at 1 1 0 rfl (by omega) (by decide +kernel))
  have H2 := Lib.hid (log_at 2 2 256 rfl (by omega) (by decide +kernel))
  have H3 := Lib.hid (log_at 3 3 405 rfl (by omega) (by decide +kernel))
  have H4 := Lib.hid (log_at 1024 1024 2560 rfl (by omega) (by decide +kernel))
  have H5 := Lib.hid (weight_at 257 1 1 1 (by decide +kernel))
  have H6 := Lib.hid (share_at 1001 1 1 1 1 (by decide +kernel))
  go_enter Try.func10, Try.ntmps10
  go_upto_region 2 with (fail)
  have SB := box2_start w 1 1
  obtain ⟨_, c0, d0⟩ := id SB
  generalize w.alloc (.cells #[.int .i64 1, .int .i64 1] 27) = B at SB c0 d0 ⊢
  have SB0 := Lib.hid SB
  clear SB
  go_wp2_with (first
    | (go_at_call 8; (with_reducible refine (H1.out _).mono ?_); rintro e w1 ⟨rfl, l1⟩; have SB1 := Lib.hid (box2_keep SB0.out l1); clear l1)
    | (go_at_call 8; (with_reducible refine (H2.out _).mono ?_); rintro e w2 ⟨rfl, l1⟩; have SB2 := Lib.hid (box2_keep SB1.out l1); clear l1)
    | (go_at_call 8; (with_reducible refine (H3.out _).mono ?_); rintro e w3 ⟨rfl, l1⟩; have SB3 := Lib.hid (box2_keep SB2.out l1); clear l1)
    | (go_at_call 8; (with_reducible refine (H4.out _).mono ?_); rintro e w4 ⟨rfl, l1⟩; have SB4 := Lib.hid (box2_keep SB3.out l1); obtain ⟨_, c4, d4⟩ := id SB4.out; clear l1)
    | (go_at_call 15; (with_reducible refine (H5.out _).mono ?_); rintro e w5 ⟨rfl, l1⟩; have SB5 := Lib.hid (box2_keep SB4.out l1); obtain ⟨_, c5, d5⟩ := id SB5.out; clear l1)
    | (go_at_call 16; (with_reducible refine (H6.out _).mono ?_); rintro e w6 ⟨rfl, l1⟩; have SB6 := Lib.hid (box2_keep SB5.out l1); clear l1))
  go_ret
  exact ⟨rfl, SB6.out.1⟩
end Go.Proofs.Ytcacfidejhmieaa
