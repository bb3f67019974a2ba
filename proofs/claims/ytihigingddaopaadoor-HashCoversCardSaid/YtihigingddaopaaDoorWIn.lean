/- What an argument of type wide.Wide, or int64, is. -/
import Derived.Test.YtihigingddaopaaDoorWPlain
import Derived.Test.YtihigingddaopaaDoorProg
import Derived.ProofKit
import Derived.OpenShut
import Derived.Lib.SmallJoins
namespace Go.Proofs.YtihigingddaopaaDoor
open Go.Joins Go.ChangeShapes Go.WideShapes Go.ChangeAt Go.RowKit
set_option linter.unusedVariables false

theorem in64_wf {a : Int} (h : (Lit.int .i64 a).wf = true) : In64 a := by
  simp only [Lit.wf, Bool.and_eq_true, decide_eq_true_eq] at h
  exact ⟨h.1, h.2⟩
theorem u64_wf {a : Int} (h : (Lit.int .u64 a).wf = true) : 0 ≤ a ∧ a < 18446744073709551616 := by
  simp only [Lit.wf, Bool.and_eq_true, decide_eq_true_eq] at h
  have h2 : IntKind.u64.max = 18446744073709551615 := rfl
  have h3 : IntKind.u64.min = 0 := rfl
  omega
end Go.Proofs.YtihigingddaopaaDoor
