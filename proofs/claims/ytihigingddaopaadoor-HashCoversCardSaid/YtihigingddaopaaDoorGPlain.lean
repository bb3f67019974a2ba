/- Points and rects: plain words, no program. -/
import Derived.Test.YtihigingddaopaaDoorWPlain
namespace Go.Proofs.YtihigingddaopaaDoor
open Go.RowKit
set_option linter.unusedVariables false


structure Pt where
  x : Int
  y : Int
structure Rc where
  x0 : Int
  y0 : Int
  x1 : Int
  y1 : Int
/-- A point that may be. -/
def MayP (p : Pt) : Prop := -1800000000 ≤ p.x ∧ p.x ≤ 1800000000 ∧ -900000000 ≤ p.y ∧ p.y ≤ 900000000
instance (p : Pt) : Decidable (MayP p) := by unfold MayP; infer_instance
def mayB (p : Pt) : Bool := decide (MayP p)
/-- All of the first n points of a row. -/
def MayN (F : Nat → Pt) (n : Nat) : Prop := ∀ i, i < n → MayP (F i)
def allB (F : Nat → Pt) : Nat → Bool
  | 0 => true
  | n + 1 => allB F n && mayB (F n)
theorem allB_iff (F : Nat → Pt) : ∀ n, allB F n = true ↔ MayN F n
  | 0 => ⟨fun _ i h => absurd h (by omega), fun _ => rfl⟩
  | n + 1 => by
    unfold allB
    rw [Bool.and_eq_true, allB_iff F n]
    unfold mayB MayN
    rw [decide_eq_true_eq]
    exact ⟨fun h i hi => by
      by_cases e : i = n
      · rw [e]; exact h.2
      · exact h.1 i (by omega), fun h => ⟨fun i hi => h i (by omega), h n (by omega)⟩⟩
theorem allB_no {F : Nat → Pt} {n i : Nat} (hi : i < n) (h : mayB (F i) = false) : allB F n = false := by
  cases e : allB F n
  · rfl
  · have := (allB_iff F n).1 e i hi
    unfold mayB at h
    rw [decide_eq_false_iff_not] at h
    exact absurd this h
/-- How three points turn, by the product. -/
def cross (a b c : Pt) : Int := (b.x - a.x) * (c.y - a.y) - (b.y - a.y) * (c.x - a.x)
def May3 (a b c : Pt) : Prop := MayP a ∧ MayP b ∧ MayP c
instance (a b c : Pt) : Decidable (May3 a b c) := by unfold May3; infer_instance
def turnI (a b c : Pt) : Int := if May3 a b c then sgnI (cross a b c) else 0
theorem turn_may {a b c : Pt} (h : May3 a b c) : turnI a b c = sgnI (cross a b c) := if_pos h
theorem turn_no {a b c : Pt} (h : ¬ May3 a b c) : turnI a b c = 0 := if_neg h
theorem sgnI_bd (v : Int) : -1 ≤ sgnI v ∧ sgnI v ≤ 1 := by unfold sgnI; split <;> (try split) <;> omega
theorem turn_bd (a b c : Pt) : -1 ≤ turnI a b c ∧ turnI a b c ≤ 1 := by
  unfold turnI; split
  · exact sgnI_bd _
  · omega
theorem prod_le {a b A B : Int} (a1 : -A ≤ a) (a2 : a ≤ A) (b1 : -B ≤ b) (b2 : b ≤ B) (hA : 0 ≤ A) : -(A * B) ≤ a * b ∧ a * b ≤ A * B := by
  have hB : 0 ≤ B := by omega
  rcases Int.le_total 0 b with h | h
  · have h1 := Int.mul_le_mul_of_nonneg_right a2 h
    have h2 := Int.mul_le_mul_of_nonneg_right a1 h
    have h3 := Int.mul_le_mul_of_nonneg_left b2 hA
    rw [Int.neg_mul] at h2
    omega
  · have h1 := Int.mul_le_mul_of_nonpos_right a2 h
    have h2 := Int.mul_le_mul_of_nonpos_right a1 h
    have h3 := Int.mul_le_mul_of_nonneg_left b1 hA
    rw [Int.neg_mul] at h2
    rw [Int.mul_neg] at h3
    omega
theorem cross_bd {a b c : Pt} (h : May3 a b c) : (-6480000000000000000 ≤ (b.x - a.x) * (c.y - a.y) ∧ (b.x - a.x) * (c.y - a.y) ≤ 6480000000000000000) ∧ (-6480000000000000000 ≤ (b.y - a.y) * (c.x - a.x) ∧ (b.y - a.y) * (c.x - a.x) ≤ 6480000000000000000) := by
  obtain ⟨ha, hb, hc⟩ := h
  unfold MayP at ha hb hc
  have h1 := prod_le (a := b.x - a.x) (b := c.y - a.y) (A := 3600000000) (B := 1800000000) (by omega) (by omega) (by omega) (by omega) (by omega)
  have h2 := prod_le (a := b.y - a.y) (b := c.x - a.x) (A := 1800000000) (B := 3600000000) (by omega) (by omega) (by omega) (by omega) (by omega)
  omega
theorem sv_cross {a b c : Pt} (h : May3 a b c) : svW (cross a b c) = cross a b c := by
  have := cross_bd h
  exact sv_small _ (by unfold cross; omega) (by unfold cross; omega)
/-- Rects. -/
def MayR (r : Rc) : Prop := MayP ⟨r.x0, r.y0⟩ ∧ MayP ⟨r.x1, r.y1⟩ ∧ r.x0 ≤ r.x1 ∧ r.y0 ≤ r.y1
instance (r : Rc) : Decidable (MayR r) := by unfold MayR; infer_instance
def mayRB (r : Rc) : Bool := decide (MayR r)
def justR (p : Pt) : Rc := ⟨p.x, p.y, p.x, p.y⟩
def joinR (r s : Rc) : Rc := ⟨min r.x0 s.x0, min r.y0 s.y0, max r.x1 s.x1, max r.y1 s.y1⟩
def OvP (r s : Rc) : Prop := r.x0 ≤ s.x1 ∧ s.x0 ≤ r.x1 ∧ r.y0 ≤ s.y1 ∧ s.y0 ≤ r.y1
instance (r s : Rc) : Decidable (OvP r s) := by unfold OvP; infer_instance
def ovB (r s : Rc) : Bool := decide (MayR r ∧ MayR s ∧ OvP r s)
def zeroR : Rc := ⟨0, 0, 0, 0⟩
def boundsN (F : Nat → Pt) : Nat → Rc
  | 0 => zeroR
  | 1 => justR (F 0)
  | n + 2 => joinR (boundsN F (n + 1)) (justR (F (n + 1)))
/-- What Bounds tells. -/
def BoundP (F : Nat → Pt) (n : Nat) : Prop := 0 < n ∧ MayN F n
theorem just_may {p : Pt} (h : MayP p) : MayR (justR p) := ⟨h, h, Int.le_refl _, Int.le_refl _⟩
theorem join_may {r s : Rc} (hr : MayR r) (hs : MayR s) : MayR (joinR r s) := by
  unfold MayR MayP at *; unfold joinR; dsimp only at *; omega
theorem bounds_may {F : Nat → Pt} : ∀ {n : Nat}, 0 < n → MayN F n → MayR (boundsN F n)
  | 1, _, h => just_may (h 0 (by omega))
  | n + 2, _, h => join_may (bounds_may (n := n + 1) (by omega) fun i hi => h i (by omega)) (just_may (h (n + 1) (by omega)))
/-- On an edge. -/
def OnP (a b p : Pt) : Prop := May3 a b p ∧ min a.x b.x ≤ p.x ∧ p.x ≤ max a.x b.x ∧ min a.y b.y ≤ p.y ∧ p.y ≤ max a.y b.y ∧ cross a b p = 0
instance (a b p : Pt) : Decidable (OnP a b p) := by unfold OnP; infer_instance
def onB (a b p : Pt) : Bool := decide (OnP a b p)
def crossB (a b c d : Pt) : Bool := decide (turnI a b c * turnI a b d < 0 ∧ turnI c d a * turnI c d b < 0)
def May4 (a b c d : Pt) : Prop := MayP a ∧ MayP b ∧ MayP c ∧ MayP d
instance (a b c d : Pt) : Decidable (May4 a b c d) := by unfold May4; infer_instance
def meetB (a b c d : Pt) : Bool := decide (May4 a b c d ∧ (crossB a b c d = true ∨ onB a b c = true ∨ onB a b d = true ∨ onB c d a = true ∨ onB c d b = true))
end Go.Proofs.YtihigingddaopaaDoor
