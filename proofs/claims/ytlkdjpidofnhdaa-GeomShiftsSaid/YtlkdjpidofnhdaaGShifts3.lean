/- GeomShifts: whole. -/
import Derived.Test.YtlkdjpidofnhdaaGShifts2
namespace Go.Proofs.Ytlkdjpidofnhdaa
open Go.RowKit
set_option linter.unusedVariables false

theorem geomShifts_walk (s : Sl) (p v : Pt) (w : World) (hs : SlOk w s) : Calls Try.prog 8 #[.slice s.A s.n s.c, .agg #[.int .i64 p.x, .int .i64 p.y], .agg #[.int .i64 v.x, .int .i64 v.y]] w fun e w' => e = .returned (.bool true) ∧ Below w.heap.size w w' := by
  by_cases h : s.n ≤ 60
  · rcases Nat.eq_zero_or_pos s.n with h0 | h0
    · exact shifts_none s p v w h0
    · cases hv : mayB v
      · exact shifts_noby s p v w h h0 hv
      · cases hp : mayB p
        · exact shifts_nop s p v w h h0 hv hp
        · obtain ⟨_, _, hP⟩ := hs
          obtain ⟨b, o, e, _⟩ := hP.2 h0
          rw [e] at hP ⊢
          exact shifts_main b o s.n s.c s.F p v w hP h h0 hv hp
  · exact shifts_big s p v w h
end Go.Proofs.Ytlkdjpidofnhdaa
