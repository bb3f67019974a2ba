/- log's slots: the iterator that it hands back. -/
import Derived.Test.YtmeijienfdefjaaLAppend
namespace Go.Proofs.Ytmeijienfdefjaa
open Go.RowKit
set_option linter.unusedVariables false

theorem slots_any (p : Nat) (first count : Int) (w : World) :
    Calls Try.prog 36 #[.agg #[.pointer (some ⟨p, 0, none⟩), .int .i64 first, .int .i64 count]] w fun e w' =>
      e = .returned (.func (.func 57) #[] #[.pointer (some ⟨w.heap.size, 0, none⟩)]) ∧ w' = w.alloc (.cells #[.pointer (some ⟨p, 0, none⟩), .int .i64 first, .int .i64 count] 80) := by
  go_enter Try.func36, Try.ntmps36
  go_wp2
  go_ret
  exact ⟨rfl, rfl⟩
/-- What a slot's read of the disk tells: its bytes, or the disk's error. -/
def slotI (S : DS) (first k : Nat) : Int := reachI S ((first + k : Nat) : Int)
end Go.Proofs.Ytmeijienfdefjaa
