/- unpacked's deferred closure. -/
import Derived.Test.YthpfaaindkkpcaaBPosting2
import Derived.Defers
import Derived.Recover
import Derived.Tactics2
import Derived.Laws.Pointers
namespace Go.Proofs.Ythpfaaindkkpcaa
open Go.RowKit Go.Maps
set_option linter.unusedVariables false
set_option linter.unusedSimpArgs false

@[go_sem] theorem as_fault (W : World) (v : Value) : (Instr.typeAssert (.iface 54 v) 20 54 false).run Try.prog W = .ok v W := by kernel_rfl
@[go_sem] theorem field_fault (W : World) : (Instr.field 54 (.agg #[.int .i64 5]) 0).run Try.prog W = .ok (.int .i64 5) W := by kernel_rfl
theorem catch_idle (p q : Addr) (w : World) :
    CallsD Try.prog 21 #[.pointer (some p), .pointer (some q)] .returning w fun e u' w' => e = .returned (.tuple #[]) ∧ u' = .returning ∧ w' = w := by
  refine callsD_of_wpS Try.func21 rfl fun c₀ cs hu => ?_
  apply wpS_seq
  apply wpS_region
  simp [wpOpsS, go_sem, recoverD, hu, Try.ntmps21, Exit.thenS]
  apply wpS_seq
  apply wpS_region
  simp [wpOpsS, go_sem, Exit.thenS]
  refine wpS_cond (t := false) (by simp [Act.eval, Array.replicate]) ?_
  simp only [Bool.false_eq_true, if_false]
  refine wpS_of_wp (wp_skip ?_)
  cases c₀
  simp_all [bodyPostS, results, Try.results21]
theorem catch_panicking (L E : Nat) (older : List PanicEntry) (w : World) (l : Value) (e0 : Int) (hl : w.cell? ⟨L, 0, none⟩ = some l) (he : w.cell? ⟨E, 0, none⟩ = some (.int .i64 e0)) (hz1 : w.frozen? ⟨L, 0, none⟩ = false) (hz2 : w.frozen? ⟨E, 0, none⟩ = false) (hne : L ≠ E) :
    CallsD Try.prog 21 #[.pointer (some ⟨L, 0, none⟩), .pointer (some ⟨E, 0, none⟩)] (.panicking (faultP :: older)) w fun e u' w' =>
      e = .returned (.tuple #[]) ∧ u' = .panicking ({ faultP with recovered := true } :: older) ∧ w' = ((w.setCell ⟨L, 0, none⟩ (.slice none 0 0)).setCell ⟨E, 0, none⟩ (.int .i64 5)).drew := by
  refine callsD_of_wpS Try.func21 rfl fun c₀ cs hu => ?_
  apply wpS_seq
  apply wpS_region
  simp [wpOpsS, go_sem, recoverD, hu, Try.ntmps21, Exit.thenS]
  apply wpS_seq
  apply wpS_region
  simp [wpOpsS, go_sem, Exit.thenS]
  refine wpS_cond (t := true) (by simp [Act.eval, Array.replicate]) ?_
  simp only [if_true]
  refine wpS_of_wp ?_
  simp only [Array.replicate_succ, Array.replicate_zero, List.push_toArray, List.nil_append, List.cons_append, List.setIfInBounds_toArray, List.set_cons_zero, List.set_cons_succ, List.append_toArray]
  go_region
  exact ⟨rfl, _, rfl, _, results_none rfl _ _ _, rfl, rfl, rfl⟩
end Go.Proofs.Ythpfaaindkkpcaa
