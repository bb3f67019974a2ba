/- geom's Turn, the document's Turn: the walks. -/
import Derived.Test.YtihigingddaopaaDoorGAll
import Derived.Test.YtihigingddaopaaDoorWMul
import Derived.Shelf.Small.Bits
import Derived.Shelf.Strconv.Itoa0
import Derived.Test.YtihigingddaopaaDoorWCmp
namespace Go.Proofs.YtihigingddaopaaDoor
open Go.RowKit
set_option linter.unusedVariables false


def F3 (a b c : Pt) : Nat → Pt | 0 => a | 1 => b | _ => c
theorem pts3 (W : World) (a b c : Pt) : Pts (W.alloc (.cells #[.int .i64 a.x, .int .i64 a.y, .int .i64 b.x, .int .i64 b.y, .int .i64 c.x, .int .i64 c.y] 54)) (some ⟨W.heap.size, 0, none⟩) 3 (F3 a b c) :=
  ⟨by omega, fun _ => ⟨W.heap.size, 0, rfl, fun i hi => by
    rcases i with _ | _ | _ | i
    · constructor <;> simp [F3]
    · constructor <;> simp [F3]
    · constructor <;> simp [F3]
    · omega⟩⟩
theorem all3_yes {a b c : Pt} (h : May3 a b c) : allB (F3 a b c) 3 = true := (allB_iff _ _).2 fun i hi => by
  rcases i with _ | _ | _ | i
  · exact h.1
  · exact h.2.1
  · exact h.2.2
  · omega
theorem all3_no {a b c : Pt} (h : ¬ May3 a b c) : allB (F3 a b c) 3 = false := by
  cases e : allB (F3 a b c) 3
  · rfl
  · have k := (allB_iff _ _).1 e
    exact absurd ⟨k 0 (by omega), k 1 (by omega), k 2 (by omega)⟩ h
/-- The bounds of points that may be. -/
theorem May3.bd {a b c : Pt} (h : May3 a b c) : (-1800000000 ≤ a.x ∧ a.x ≤ 1800000000 ∧ -900000000 ≤ a.y ∧ a.y ≤ 900000000) ∧ (-1800000000 ≤ b.x ∧ b.x ≤ 1800000000 ∧ -900000000 ≤ b.y ∧ b.y ≤ 900000000) ∧ (-1800000000 ≤ c.x ∧ c.x ≤ 1800000000 ∧ -900000000 ≤ c.y ∧ c.y ≤ 900000000) := h
end Go.Proofs.YtihigingddaopaaDoor
