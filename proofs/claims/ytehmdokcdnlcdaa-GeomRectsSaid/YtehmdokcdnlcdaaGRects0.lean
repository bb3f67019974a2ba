/- GeomRects: the walk. -/
import Derived.Test.YtehmdokcdnlcdaaGRefBnd
import Derived.Test.YtehmdokcdnlcdaaGRefNear
import Derived.Test.YtehmdokcdnlcdaaGDist
import Derived.Test.YtehmdokcdnlcdaaGAwake
import Derived.Test.YtehmdokcdnlcdaaGArgs3
import Derived.Test.YtehmdokcdnlcdaaGPts
import Derived.Deep.DeepCutAuto
import Derived.Deep.CutRange
import Derived.Deep.MidRow
import Derived.Deep.QuietTactic
import Derived.BigQuiet
namespace Go.Proofs.Ytehmdokcdnlcdaa
open Go.RowKit
set_option linter.unusedVariables false

theorem range4 {w : World} {x o : Nat} {c0 c1 c2 c3 : Value} (h0 : w.cell? ⟨x, o, none⟩ = some c0) (h1 : w.cell? ⟨x, o + 1, none⟩ = some c1) (h2 : w.cell? ⟨x, o + 2, none⟩ = some c2) (h3 : w.cell? ⟨x, o + 3, none⟩ = some c3) : w.rangeAt x o [c0, c1, c2, c3] := fun j v hv => by
  match j, hv with
  | 0, hv => simp at hv; subst hv; exact h0
  | 1, hv => simp at hv; subst hv; exact h1
  | 2, hv => simp at hv; subst hv; exact h2
  | 3, hv => simp at hv; subst hv; exact h3
  | j + 4, hv => simp at hv
theorem range2 {w : World} {x o : Nat} {c0 c1 : Value} (h0 : w.cell? ⟨x, o, none⟩ = some c0) (h1 : w.cell? ⟨x, o + 1, none⟩ = some c1) : w.rangeAt x o [c0, c1] := fun j v hv => by
  match j, hv with
  | 0, hv => simp at hv; subst hv; exact h0
  | 1, hv => simp at hv; subst hv; exact h1
  | j + 2, hv => simp at hv
theorem RcAt.range {W : World} {q : Nat} {j : Rc} (h : RcAt W q j) : W.rangeAt q 0 [.int .i64 j.x0, .int .i64 j.y0, .int .i64 j.x1, .int .i64 j.y1] := by
  obtain ⟨c0, c1, c2, c3⟩ := h.cells
  exact range4 c0 c1 c2 c3
set_option maxRecDepth 100000 in
set_option maxHeartbeats 4000000 in
theorem rects_big (A : Option Addr) (n c : Nat) (r s : Rc) (w : World) (h : ¬ n ≤ 100) (hn : n ≤ 9223372036854775807) : Calls Try.prog 5 #[.slice A n c, vR r, vR s] w fun e w' => e = .returned (.bool true) ∧ Below w.heap.size w w' := by
  have hl := Lib.hid (show Below w.heap.size w ((w.alloc (.cells #[.int .i64 r.x0, .int .i64 r.y0, .int .i64 r.x1, .int .i64 r.y1] 36)).alloc (.cells #[.int .i64 s.x0, .int .i64 s.y0, .int .i64 s.x1, .int .i64 s.y1] 36)) from ((Below.refl _ _).alloc (Nat.le_refl _) _).alloc (by simp) _)
  have h2 : (100 : Int) < n := by omega
  go_enter Try.func5, Try.ntmps5
  go_wp2_with fail
  go_ret
  exact ⟨rfl, hl.out⟩
end Go.Proofs.Ytehmdokcdnlcdaa
