/- wide's Sign and Compare. -/
import Derived.Test.YtihigingddaopaaDoorWLeaf
import Derived.BigRegion
import Derived.BigQuiet
import Derived.Deep.QuietTactic
import Derived.Deep.RegionHeld3
import Derived.Deep.RegionHeldLaw
namespace Go.Proofs.YtihigingddaopaaDoor
open Go.RowKit
set_option linter.unusedVariables false

theorem ret_i {a b : Int} (h : a = b) : Ending.returned (.int .i64 a) = .returned (.int .i64 b) := by rw [h]
theorem cmp_u64 (a b : Int) (w : World) : Calls Tryd.prog 13 #[.int .u64 a, .int .u64 b] w fun e w' => e = .returned (.int .i64 (cmpI a b)) ∧ w = w' := by
  have q1 : (a != a) = false := by simp
  have q2 : (b != b) = false := by simp
  rcases Int.lt_trichotomy a b with h | h | h
  · have HE := Lib.hid (cmpI_lt h)
    go_enter Tryd.func13, Tryd.ntmps13
    go_wp2
    go_ret
    exact ⟨ret_i (by rw [HE.out]), rfl⟩
  · have HE := Lib.hid (cmpI_eq h)
    have h1 : ¬ a < b := by omega
    have h2 : ¬ b < a := by omega
    clear h
    go_enter Tryd.func13, Tryd.ntmps13
    go_wp2
    go_ret
    exact ⟨ret_i (by rw [HE.out]), rfl⟩
  · have HE := Lib.hid (cmpI_gt h)
    have h1 : ¬ a < b := by omega
    go_enter Tryd.func13, Tryd.ntmps13
    go_wp2
    go_ret
    exact ⟨ret_i (by rw [HE.out]), rfl⟩
end Go.Proofs.YtihigingddaopaaDoor
