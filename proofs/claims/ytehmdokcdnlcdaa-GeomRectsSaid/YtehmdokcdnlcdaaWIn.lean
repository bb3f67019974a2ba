/- What an argument of type wide.Wide, or int64, is. -/
import Derived.Test.YtehmdokcdnlcdaaWPlain
import Derived.Test.YtehmdokcdnlcdaaProg
import Derived.ProofKit
import Derived.OpenShut
import Derived.Lib.SmallJoins
namespace Go.Proofs.Ytehmdokcdnlcdaa
open Go.Joins Go.ChangeShapes Go.WideShapes Go.ChangeAt Go.RowKit
set_option linter.unusedVariables false

theorem cellsWide : Try.prog.cellsOf 55 = 2 := by kernel_rfl
theorem in64_wf {a : Int} (h : (Lit.int .i64 a).wf = true) : In64 a := by
  simp only [Lit.wf, Bool.and_eq_true, decide_eq_true_eq] at h
  exact ⟨h.1, h.2⟩
theorem u64_wf {a : Int} (h : (Lit.int .u64 a).wf = true) : 0 ≤ a ∧ a < 18446744073709551616 := by
  simp only [Lit.wf, Bool.and_eq_true, decide_eq_true_eq] at h
  have h2 : IntKind.u64.max = 18446744073709551615 := rfl
  have h3 : IntKind.u64.min = 0 := rfl
  omega
theorem wide_in {H : Type} {enc : TypeId × Value → H} {W : World} {base : Nat} {v : Value} {d : DataW H} {p : List MemPlace} (hv : Value.okWide Try.prog W .any base 55 v) (h : DataW.Trod enc Try.prog W 0 (fun _ => true) true 55 v d p) :
    ∃ x, v = .agg #[.int .i64 (hiW x), .int .u64 (loW x)] := by
  obtain ⟨c0, c1, y0, y1, m, rfl, rfl, rfl, hy0, hy1⟩ := open_agg2 Try.underlying55 (by kernel_rfl) cellsWide hv h
  obtain ⟨a, e0, r0, wa⟩ := DataW.trod_int Try.underlying2 hy0
  obtain ⟨b, e1, r1, wb⟩ := DataW.trod_int Try.underlying43 hy1
  simp at e0 e1
  subst e0 e1
  have ha := in64_wf wa
  have hb := u64_wf wb
  exact ⟨a * 18446744073709551616 + b, by rw [hi_of a b ha.1 ha.2 hb.1 hb.2, lo_of a b hb.1 hb.2]⟩
end Go.Proofs.Ytehmdokcdnlcdaa
