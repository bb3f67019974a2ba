/- The document's Code, Place; the law's awake: the walks. -/
import Derived.Test.YtihigingddaopaaDoorHRef
namespace Go.Proofs.YtihigingddaopaaDoor
open Go.RowKit
set_option linter.unusedVariables false

theorem mix32 (X Y : Nat) (hX : X < 18446744073709551616) (hY : Y < 18446744073709551616) (w : World) :
    Calls Tryd.prog 17 #[.int .u64 X, .int .u64 Y, .int .i64 32] w fun e w' => e = .returned (.int .u64 (mixN X Y 32 : Nat)) ∧ w = w' := mix_any X Y 32 hX hY (by omega) w
theorem Gb_step (N k : Nat) : Gb N (k + 1) = Gb N k + N / 4 ^ k % 2 * 2 ^ k := rfl
theorem aw_a (w : World) (hm : MaskT w) : Calls Tryd.prog 19 #[.agg #[.int .i64 (-1800000000), .int .i64 (-900000000)]] w fun e w' => e = .returned (.tuple #[.int .u64 0, .bool true]) ∧ Below w.heap.size w w' := by
  have h := code_any ⟨-1800000000, -900000000⟩ w hm
  rwa [show codeV ⟨-1800000000, -900000000⟩ = 0 by decide +kernel, show mayB ⟨-1800000000, -900000000⟩ = true by decide +kernel] at h
theorem aw_b (w : World) (hm : MaskT w) : Calls Tryd.prog 19 #[.agg #[.int .i64 (-1799999999), .int .i64 (-900000000)]] w fun e w' => e = .returned (.tuple #[.int .u64 2, .bool true]) ∧ Below w.heap.size w w' := by
  have h := code_any ⟨-1799999999, -900000000⟩ w hm
  rwa [show codeV ⟨-1799999999, -900000000⟩ = 2 by decide +kernel, show mayB ⟨-1799999999, -900000000⟩ = true by decide +kernel] at h
theorem aw_c (w : World) (hm : MaskT w) : Calls Tryd.prog 19 #[.agg #[.int .i64 (-1800000000), .int .i64 (-899999999)]] w fun e w' => e = .returned (.tuple #[.int .u64 1, .bool true]) ∧ Below w.heap.size w w' := by
  have h := code_any ⟨-1800000000, -899999999⟩ w hm
  rwa [show codeV ⟨-1800000000, -899999999⟩ = 1 by decide +kernel, show mayB ⟨-1800000000, -899999999⟩ = true by decide +kernel] at h
theorem awake_any (w : World) (hm : MaskT w) : Calls Tryd.prog 6 #[] w fun e w' => e = .returned (.bool true) ∧ Below w.heap.size w w' := by
  have HM := Lib.hid hm
  have K1 := Lib.hid aw_a
  have K2 := Lib.hid aw_b
  have K3 := Lib.hid aw_c
  clear hm
  go_enter Tryd.func6, Tryd.ntmps6
  go_wp2_with fail
  (with_reducible refine (K1.out _ HM.out).mono ?_); rintro _ w1 ⟨rfl, l1⟩
  have L1 := Lib.hid l1
  clear l1
  go_wp2_with fail
  (with_reducible refine (K2.out _ (HM.out.below L1.out)).mono ?_); rintro _ w2 ⟨rfl, l2⟩
  have L2 := Lib.hid (below2' L1.out l2)
  clear l2
  go_wp2_with fail
  (with_reducible refine (K3.out _ (HM.out.below L2.out)).mono ?_); rintro _ w3 ⟨rfl, l3⟩
  have L3 := Lib.hid (below2' L2.out l3)
  clear l3
  go_wp2
  go_ret
  exact ⟨rfl, L3.out⟩
end Go.Proofs.YtihigingddaopaaDoor
