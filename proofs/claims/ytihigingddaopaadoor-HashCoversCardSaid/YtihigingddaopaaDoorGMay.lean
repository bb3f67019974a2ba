/- geom's May, the document's May: the walks; rows of points in memory. -/
import Derived.Test.YtihigingddaopaaDoorGPlain
import Derived.Test.YtihigingddaopaaDoorWLeaf
import Derived.Test.YtihigingddaopaaDoorMMem
import Derived.Deep.LoopGhost
namespace Go.Proofs.YtihigingddaopaaDoor
open Go.RowKit
set_option linter.unusedVariables false


theorem ret_b {a b : Bool} (h : a = b) : Ending.returned (.bool a) = .returned (.bool b) := by rw [h]
theorem may_yes {p : Pt} (h : MayP p) : mayB p = true := decide_eq_true h
theorem may_no {p : Pt} (h : ¬ MayP p) : mayB p = false := decide_eq_false h
theorem may_any (p : Pt) (w : World) : Calls Tryd.prog 27 #[.agg #[.int .i64 p.x, .int .i64 p.y]] w fun e w' => e = .returned (.bool (mayB p)) ∧ Below w.heap.size w w' := by
  by_cases h1 : -1800000000 ≤ p.x
  · by_cases h2 : p.x ≤ 1800000000
    · by_cases h3 : -900000000 ≤ p.y
      · by_cases h4 : p.y ≤ 900000000
        · have HE := Lib.hid (may_yes ⟨h1, h2, h3, h4⟩)
          go_enter Tryd.func27, Tryd.ntmps27
          go_wp2
          go_ret
          exact ⟨ret_b HE.out.symm, (Below.refl _ _).alloc (Nat.le_refl _) _⟩
        · have HE := Lib.hid (may_no (p := p) fun h => h4 h.2.2.2)
          go_enter Tryd.func27, Tryd.ntmps27
          go_wp2
          go_ret
          exact ⟨ret_b HE.out.symm, (Below.refl _ _).alloc (Nat.le_refl _) _⟩
      · have HE := Lib.hid (may_no (p := p) fun h => h3 h.2.2.1)
        go_enter Tryd.func27, Tryd.ntmps27
        go_wp2
        go_ret
        exact ⟨ret_b HE.out.symm, (Below.refl _ _).alloc (Nat.le_refl _) _⟩
    · have HE := Lib.hid (may_no (p := p) fun h => h2 h.2.1)
      go_enter Tryd.func27, Tryd.ntmps27
      go_wp2
      go_ret
      exact ⟨ret_b HE.out.symm, (Below.refl _ _).alloc (Nat.le_refl _) _⟩
  · have HE := Lib.hid (may_no (p := p) fun h => h1 h.1)
    go_enter Tryd.func27, Tryd.ntmps27
    go_wp2
    go_ret
    exact ⟨ret_b HE.out.symm, (Below.refl _ _).alloc (Nat.le_refl _) _⟩
theorem refMay_any (p : Pt) (w : World) : Calls Tryd.prog 40 #[.agg #[.int .i64 p.x, .int .i64 p.y]] w fun e w' => e = .returned (.bool (mayB p)) ∧ Below w.heap.size w w' := by
  by_cases h1 : -1800000000 ≤ p.x
  · by_cases h2 : p.x ≤ 1800000000
    · by_cases h3 : -900000000 ≤ p.y
      · by_cases h4 : p.y ≤ 900000000
        · have HE := Lib.hid (may_yes ⟨h1, h2, h3, h4⟩)
          go_enter Tryd.func40, Tryd.ntmps40
          go_wp2
          go_ret
          exact ⟨ret_b HE.out.symm, (Below.refl _ _).alloc (Nat.le_refl _) _⟩
        · have HE := Lib.hid (may_no (p := p) fun h => h4 h.2.2.2)
          go_enter Tryd.func40, Tryd.ntmps40
          go_wp2
          go_ret
          exact ⟨ret_b HE.out.symm, (Below.refl _ _).alloc (Nat.le_refl _) _⟩
      · have HE := Lib.hid (may_no (p := p) fun h => h3 h.2.2.1)
        go_enter Tryd.func40, Tryd.ntmps40
        go_wp2
        go_ret
        exact ⟨ret_b HE.out.symm, (Below.refl _ _).alloc (Nat.le_refl _) _⟩
    · have HE := Lib.hid (may_no (p := p) fun h => h2 h.2.1)
      go_enter Tryd.func40, Tryd.ntmps40
      go_wp2
      go_ret
      exact ⟨ret_b HE.out.symm, (Below.refl _ _).alloc (Nat.le_refl _) _⟩
  · have HE := Lib.hid (may_no (p := p) fun h => h1 h.1)
    go_enter Tryd.func40, Tryd.ntmps40
    go_wp2
    go_ret
    exact ⟨ret_b HE.out.symm, (Below.refl _ _).alloc (Nat.le_refl _) _⟩

/-- A row of points. -/
def Pts (W : World) (A : Option Addr) (n : Nat) (F : Nat → Pt) : Prop :=
  n ≤ 9223372036854775807 ∧ (0 < n → ∃ b o, A = some ⟨b, o, none⟩ ∧ ∀ i, i < n → W.cell? ⟨b, o + i * 2, none⟩ = some (.int .i64 (F i).x) ∧ W.cell? ⟨b, o + i * 2 + 1, none⟩ = some (.int .i64 (F i).y))
theorem cell_lt' {W : World} {b o : Nat} {v : Value} (h : W.cell? ⟨b, o, none⟩ = some v) : b < W.heap.size := by
  rcases Nat.lt_or_ge b W.heap.size with hlt | hge
  · exact hlt
  · rw [World.cell?, Array.getElem?_eq_none hge] at h
    cases h
theorem kp' {W w' : World} {b o B : Nat} {v : Value} (l : Below B W w') (hB : b < B) (h : W.cell? ⟨b, o, none⟩ = some v) : w'.cell? ⟨b, o, none⟩ = some v :=
  (l.cell (p := ⟨b, o, none⟩) hB).trans h
theorem Pts.keep {W w' : World} {A : Option Addr} {n : Nat} {F : Nat → Pt} (h : Pts W A n F) (l : Below W.heap.size W w') : Pts w' A n F :=
  ⟨h.1, fun hn => by
    obtain ⟨b, o, rfl, hc⟩ := h.2 hn
    exact ⟨b, o, rfl, fun i hi => ⟨kp' l (cell_lt' (hc i hi).1) (hc i hi).1, kp' l (cell_lt' (hc i hi).2) (hc i hi).2⟩⟩⟩
theorem Pts.congr {W : World} {A : Option Addr} {n : Nat} {F G : Nat → Pt} (h : Pts W A n F) (e : ∀ i, i < n → F i = G i) : Pts W A n G :=
  ⟨h.1, fun hn => by
    obtain ⟨b, o, rfl, hc⟩ := h.2 hn
    exact ⟨b, o, rfl, fun i hi => by rw [← e i hi]; exact hc i hi⟩⟩
theorem below2' {w w1 w2 : World} (a : Below w.heap.size w w1) (b : Below w1.heap.size w1 w2) : Below w.heap.size w w2 := a.trans (b.mono a.size)
end Go.Proofs.YtihigingddaopaaDoor
