/- HashSpots: the walk. -/
import Derived.Test.YtihigingddaopaaDoorHCover
import Derived.Test.YtihigingddaopaaDoorHRef2
namespace Go.Proofs.YtihigingddaopaaDoor
open Go.RowKit
set_option linter.unusedVariables false
set_option linter.unusedSimpArgs false

open Go.Shelf
attribute [local go_sem] Oper.semAt_some
set_option maxHeartbeats 4000000 in
theorem cover_no (r : Rc) (hr : ¬ MayR r) (m : Nat) (w : World) :
    Calls Tryd.prog 4 #[.agg #[.int .i64 r.x0, .int .i64 r.y0, .int .i64 r.x1, .int .i64 r.y1], .int .i64 (m : Nat)] w fun e w' => e = .returned (.slice none 0 0) ∧ Below w.heap.size w w' := by
  have KM := Lib.hid (mayRect_any r (w.alloc (.cells #[.int .i64 r.x0, .int .i64 r.y0, .int .i64 r.x1, .int .i64 r.y1] 23)))
  rw [show mayRB r = false from decide_eq_false hr] at KM
  have HB0 := Lib.hid ((Below.refl w.heap.size w).alloc (Nat.le_refl _) (.cells #[.int .i64 r.x0, .int .i64 r.y0, .int .i64 r.x1, .int .i64 r.y1] 23))
  clear hr
  go_enter Tryd.func4, Tryd.ntmps4
  go_wp2_with (go_at_call 7; refine KM.out.mono ?_; rintro _ w1 ⟨rfl, l1⟩; have L1 := Lib.hid l1; clear l1)
  go_ret
  exact ⟨rfl, HB0.out.trans (L1.out.mono (by simp))⟩
/-- Ranges as a reader sees them. -/
theorem own_rd {W : World} {base : Nat} {v : Value} {L : List Rg} (hL : L ≠ []) (h : W.ownsRow base 30 2 v L.length (rowR L)) : ∃ g cp, v = .slice (some ⟨g, 0, none⟩) L.length cp ∧ RdG W g 0 L := by
  rcases h.2 with ⟨_, h0⟩ | ⟨g, cap, cur, hv, _⟩
  · exact absurd (List.eq_nil_of_length_eq_zero h0) hL
  · subst hv
    refine ⟨g, cap, rfl, fun i r hi => ?_⟩
    have hil := (List.getElem?_eq_some_iff.1 hi).1
    have c : ∀ j, j < 2 → W.cell? ⟨g, i * 2 + j, none⟩ = (encC r)[j]? := fun j hj => by
      have := World.ownsRow.cellAt (w := W) (base := base) (e := 30) (size := 2) h (i * 2 + j) (by omega)
      rw [this]
      exact rowR_at L i r hi j hj
    rw [Nat.zero_add]
    exact ⟨c 0 (by omega), c 1 (by omega)⟩
end Go.Proofs.YtihigingddaopaaDoor
