/- GeomEdges: the walk. -/
import Derived.Test.YtlkdjpidofnhdaaGFour
import Derived.Test.YtlkdjpidofnhdaaGRefMeet
import Derived.Test.YtlkdjpidofnhdaaGEdgesA
import Derived.Test.YtlkdjpidofnhdaaGEdgesB
import Derived.Test.YtlkdjpidofnhdaaGEdgesC
import Derived.Test.YtlkdjpidofnhdaaGArgs2
namespace Go.Proofs.Ytlkdjpidofnhdaa
open Go.RowKit
set_option linter.unusedVariables false

theorem cross_out {a b c d : Pt} (h : ¬ May4 a b c d) : crossB a b c d = false := decide_eq_false fun k => by
  obtain ⟨k1, k2⟩ := k
  have n1 : turnI a b c ≠ 0 := fun e => by rw [e, Int.zero_mul] at k1; omega
  have n2 : turnI a b d ≠ 0 := fun e => by rw [e, Int.mul_zero] at k1; omega
  have m1 : May3 a b c := Decidable.byContradiction fun e => n1 (turn_no e)
  have m2 : May3 a b d := Decidable.byContradiction fun e => n2 (turn_no e)
  exact h ⟨m1.1, m1.2.1, m1.2.2, m2.2.2⟩
theorem on_not {a b p : Pt} (h : ¬ May3 a b p) : onB a b p = false := decide_eq_false fun k => h k.1

theorem geomEdges_walk (q : Q4) (w : World) : Calls Try.prog 3 #[.agg #[.int .i64 q.a.x, .int .i64 q.a.y, .int .i64 q.b.x, .int .i64 q.b.y, .int .i64 q.c.x, .int .i64 q.c.y, .int .i64 q.d.x, .int .i64 q.d.y]] w fun e w' => e = .returned (.bool true) ∧ Below w.heap.size w w' := by
  obtain ⟨a, b, c, d⟩ := q
  dsimp only
  have hall : ∀ W : World, Calls Try.prog 10 #[.slice (some ⟨W.heap.size, 0, none⟩) 3 3] (W.alloc (.cells #[.int .i64 a.x, .int .i64 a.y, .int .i64 b.x, .int .i64 b.y, .int .i64 c.x, .int .i64 c.y] 23)) fun e w' => e = .returned (.bool (allB (F3 a b c) 3)) ∧ Below (W.heap.size + 1) (W.alloc (.cells #[.int .i64 a.x, .int .i64 a.y, .int .i64 b.x, .int .i64 b.y, .int .i64 c.x, .int .i64 c.y] 23)) w' := fun W => by
    have h := refAll_any _ 3 3 _ _ (pts3 W a b c)
    rwa [World.size_alloc] at h
  by_cases h3 : May3 a b c
  · by_cases hd : MayP d
    · have h4 : May4 a b c d := ⟨h3.1, h3.2.1, h3.2.2, hd⟩
      refine edges_both a b c d (turnI a b c) (onB a b c) (meetB a b c d) (crossB a b c d) true (Lib.hid fun W => ?_) (Lib.hid fun W => ?_) (Lib.hid fun W => ?_) (Lib.hid fun W => turn_any a b c W) (Lib.hid fun W => on_any a b c W) (Lib.hid fun W => refTurn_any a b c h3 W) (Lib.hid fun W => refOn_any a b c h3 W) (Lib.hid fun W => meet_any a b c d W) (Lib.hid fun W => cross_any a b c d W) (Lib.hid fun W => refMeet_any a b c d h4 W) (Lib.hid fun W => refCross_any a b c d h4 W) w
      · have h := hall W; rwa [all3_yes h3] at h
      · have h := refMay_any d W; rwa [may_yes hd] at h
      · have h := may_any d W; rwa [may_yes hd] at h
    · have h4 : ¬ May4 a b c d := fun h => hd h.2.2.2
      refine edges_three a b c d (turnI a b c) (onB a b c) false false false (Lib.hid fun W => ?_) (Lib.hid fun W => ?_) (Lib.hid fun W => ?_) (Lib.hid fun W => turn_any a b c W) (Lib.hid fun W => on_any a b c W) (Lib.hid fun W => refTurn_any a b c h3 W) (Lib.hid fun W => refOn_any a b c h3 W) (Lib.hid fun W => ?_) (Lib.hid fun W => ?_) w
      · have h := hall W; rwa [all3_yes h3] at h
      · have h := refMay_any d W; rwa [may_no hd] at h
      · have h := may_any d W; rwa [may_no hd] at h
      · have h := meet_any a b c d W; rwa [meet_not h4] at h
      · have h := cross_any a b c d W; rwa [cross_out h4] at h
  · have h4 : ¬ May4 a b c d := fun h => h3 ⟨h.1, h.2.1, h.2.2.1⟩
    refine edges_none a b c d 0 false false false (mayB d) (Lib.hid fun W => ?_) (Lib.hid fun W => refMay_any d W) (Lib.hid fun W => may_any d W) (Lib.hid fun W => ?_) (Lib.hid fun W => ?_) (Lib.hid fun W => ?_) (Lib.hid fun W => ?_) w
    · have h := hall W; rwa [all3_no h3] at h
    · have h := turn_any a b c W; rwa [turn_no h3] at h
    · have h := on_any a b c W; rwa [on_not h3] at h
    · have h := meet_any a b c d W; rwa [meet_not h4] at h
    · have h := cross_any a b c d W; rwa [cross_out h4] at h
end Go.Proofs.Ytlkdjpidofnhdaa
