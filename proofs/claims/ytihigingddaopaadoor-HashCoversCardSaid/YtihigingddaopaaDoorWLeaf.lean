/- wide's small calls: Of, Plus, Less, Turned. -/
import Derived.Test.YtihigingddaopaaDoorProg
import Derived.Test.YtihigingddaopaaDoorWPlain
import Derived.WalkKit
import Derived.WalkSpells
import Derived.WalkLawsBesides
import Derived.Shelf.Spec.BitsCarry
import Derived.Laws.Externs
import Derived.Outline
import Derived.Below
namespace Go.Proofs.YtihigingddaopaaDoor
open Go.RowKit
set_option linter.unusedVariables false

theorem sub_nat (X Y : Nat) (hy : Y < 18446744073709551616) : ((if X < Y + 0 then 1 else 0 : Nat) : Int) = (if (X : Int) < Y then 1 else 0) := by
  by_cases h : X < Y
  · rw [if_pos (by omega), if_pos (by omega)]; rfl
  · rw [if_neg (by omega), if_neg (by omega)]; rfl
theorem bcell {W w1 : World} (hb : Below W.heap.size W w1) : (∀ b o, b < W.heap.size → w1.cell? ⟨b, o, none⟩ = W.cell? ⟨b, o, none⟩) ∧ (∀ b o, b < W.heap.size → w1.frozen? ⟨b, o, none⟩ = W.frozen? ⟨b, o, none⟩) :=
  ⟨fun b o h => hb.cell (p := ⟨b, o, none⟩) h, fun b o h => hb.frozen (p := ⟨b, o, none⟩) h⟩
theorem of_lo (n : Int) : IntKind.u64.wrap n = loW n := IntKind.wrap_u64 n
theorem of_hi {n : Int} (hn : In64 n) : n / 9223372036854775808 = hiW n := by unfold In64 at hn; unfold hiW; omega
/-- A struct of two cells handed back. -/
theorem ret_w {a b c d : Int} (h1 : a = c) (h2 : b = d) : Ending.returned (.agg #[.int .i64 a, .int .u64 b]) = .returned (.agg #[.int .i64 c, .int .u64 d]) := by rw [h1, h2]
end Go.Proofs.YtihigingddaopaaDoor
