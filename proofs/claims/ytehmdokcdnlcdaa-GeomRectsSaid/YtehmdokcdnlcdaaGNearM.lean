/- The nearest point of a rect: plain. -/
import Derived.Test.YtehmdokcdnlcdaaGDist
namespace Go.Proofs.Ytehmdokcdnlcdaa
open Go.RowKit
set_option linter.unusedVariables false

theorem sq_le {a b : Int} (h : (0 ≤ a ∧ a ≤ b) ∨ (a ≤ 0 ∧ b ≤ a)) : a * a ≤ b * b := by
  rcases h with ⟨h1, h2⟩ | ⟨h1, h2⟩
  · exact Int.mul_le_mul h2 h2 h1 (by omega)
  · have := Int.mul_le_mul (show -a ≤ -b by omega) (show -a ≤ -b by omega) (show 0 ≤ -a by omega) (by omega)
    rwa [Int.neg_mul_neg, Int.neg_mul_neg] at this
/-- No number between two is nearer than the one that is cut off there. -/
theorem clamp_le (p q a b : Int) (h1 : a ≤ q) (h2 : q ≤ b) : (min (max p a) b - p) * (min (max p a) b - p) ≤ (q - p) * (q - p) := sq_le (by omega)
theorem sqD_clamp {r : Rc} {p q : Pt} (h : r.x0 ≤ q.x ∧ q.x ≤ r.x1 ∧ r.y0 ≤ q.y ∧ q.y ≤ r.y1) : sqD p (clampP r p) ≤ sqD p q := by
  have h1 := clamp_le p.x q.x r.x0 r.x1 h.1 h.2.1
  have h2 := clamp_le p.y q.y r.y0 r.y1 h.2.2.1 h.2.2.2
  unfold sqD clampP
  dsimp only
  omega
theorem sqD_comm (a b : Pt) : sqD a b = sqD b a := by unfold sqD; grind
theorem clamp_may {r : Rc} (p : Pt) (h : MayR r) : MayP (clampP r p) ∧ r.x0 ≤ (clampP r p).x ∧ (clampP r p).x ≤ r.x1 ∧ r.y0 ≤ (clampP r p).y ∧ (clampP r p).y ≤ r.y1 := by
  unfold MayR MayP at h
  unfold clampP MayP
  dsimp only at *
  omega
theorem near_eq {r : Rc} {p : Pt} (hr : MayR r) (hp : MayP p) : nearI r p = sqD p (clampP r p) := by
  unfold nearI
  rw [show mayRB r = true from decide_eq_true hr]
  show distI p (clampP r p) = _
  exact if_pos (show May2 p (clampP r p) from ⟨hp, (clamp_may p hr).1⟩)
theorem holds_iff {r : Rc} {p : Pt} (hr : MayR r) (hp : MayP p) : ovB r (justR p) = true ↔ (r.x0 ≤ p.x ∧ p.x ≤ r.x1 ∧ r.y0 ≤ p.y ∧ p.y ≤ r.y1) := by
  unfold ovB
  rw [decide_eq_true_eq]
  unfold OvP
  constructor
  · rintro ⟨_, _, h⟩
    unfold justR at h
    exact ⟨h.1, h.2.1, h.2.2.1, h.2.2.2⟩
  · intro h
    refine ⟨hr, just_may hp, ?_⟩
    unfold justR
    exact ⟨h.1, h.2.1, h.2.2.1, h.2.2.2⟩
theorem near_le {r : Rc} {c p : Pt} (hr : MayR r) (hp : MayP p) (hc : MayP c) (h : ovB r (justR c) = true) : nearI r p ≤ distI c p := by
  rw [near_eq hr hp, show distI c p = sqD c p from if_pos (show May2 c p from ⟨hc, hp⟩), sqD_comm c p]
  exact sqD_clamp ((holds_iff hr hc).1 h)
theorem near_zero {r : Rc} {p : Pt} (hr : MayR r) (hp : MayP p) : (nearI r p == 0) = ovB r (justR p) := by
  rw [Bool.eq_iff_iff, holds_iff hr hp, near_eq hr hp, beq_iff_eq]
  have hb := hr.2.2
  have h1 := sq_bd (x := (clampP r p).x - p.x) (A := 100000000000000000000 + (clampP r p).x.natAbs + p.x.natAbs) (by omega) (by omega) (by omega)
  have h2 := sq_bd (x := (clampP r p).y - p.y) (A := 100000000000000000000 + (clampP r p).y.natAbs + p.y.natAbs) (by omega) (by omega) (by omega)
  constructor
  · intro h
    unfold sqD at h
    have e1 : (clampP r p).x - p.x = 0 := by
      rcases Int.mul_eq_zero.1 (show ((clampP r p).x - p.x) * ((clampP r p).x - p.x) = 0 by omega) with e | e <;> exact e
    have e2 : (clampP r p).y - p.y = 0 := by
      rcases Int.mul_eq_zero.1 (show ((clampP r p).y - p.y) * ((clampP r p).y - p.y) = 0 by omega) with e | e <;> exact e
    unfold clampP at e1 e2
    dsimp only at e1 e2
    omega
  · intro h
    have e1 : (clampP r p).x - p.x = 0 := by unfold clampP; dsimp only; omega
    have e2 : (clampP r p).y - p.y = 0 := by unfold clampP; dsimp only; omega
    unfold sqD
    rw [e1, e2]
    rfl
theorem near_join {r s : Rc} {p : Pt} (hr : MayR r) (hs : MayR s) (hp : MayP p) : nearI (joinR r s) p ≤ nearI r p := by
  rw [near_eq (join_may hr hs) hp, near_eq hr hp]
  obtain ⟨_, h⟩ := clamp_may p hr
  refine sqD_clamp ?_
  unfold joinR
  dsimp only
  omega
theorem join_over {r s : Rc} (hr : MayR r) (hs : MayR s) : ovB (joinR r s) r = true := by
  refine decide_eq_true ⟨join_may hr hs, hr, ?_⟩
  unfold MayR at hr
  unfold OvP joinR
  dsimp only
  omega
end Go.Proofs.Ytehmdokcdnlcdaa
