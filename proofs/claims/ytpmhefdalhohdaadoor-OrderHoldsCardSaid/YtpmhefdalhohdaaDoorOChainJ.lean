/- OrderChain: the walk. -/
import Derived.Test.YtpmhefdalhohdaaDoorOAwake
import Derived.Test.YtpmhefdalhohdaaDoorVCount
import Derived.Test.YtpmhefdalhohdaaDoorVTold
import Derived.Test.YtpmhefdalhohdaaDoorORefCmp
namespace Go.Proofs.YtpmhefdalhohdaaDoor
open Go.RowKit
set_option linter.unusedVariables false

theorem jv_later {w w' W0 : World} {t : VT} {v : Value} {n : Nat} (h : HasJ w (fun y => n ≤ y ∧ y < w.heap.size) t v) (hb : Below w.heap.size w w') : JV w' t v := JV.of h (fun x hx => hx.2) hb
theorem jv_self {w : World} {t : VT} {v : Value} {n : Nat} (h : HasJ w (fun y => n ≤ y ∧ y < w.heap.size) t v) : JV w t v := h.mono fun x hx => hx.2
theorem inv_lit {w : World} {t : VT} {cs : Array Value} (h : InV w t cs) : ∃ c0 c1 c2 c3 c4 c5, cs = #[c0, c1, c2, c3, c4, c5] := by
  rcases t with _ | ⟨k, b, n, s, m, f, q, g⟩
  · exact h.elim
  obtain ⟨A, c, B, d, rfl, _⟩ := h
  exact ⟨_, _, _, _, _, _, rfl⟩
end Go.Proofs.YtpmhefdalhohdaaDoor
