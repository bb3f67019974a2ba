/- block: postings, places that follow: plain. -/
import Derived.WalkKit
namespace Go.Proofs.Ythpfaaindkkpcaa
set_option linter.unusedVariables false
def aheadF (F : Nat → Int) (i : Nat) : Int := if i = 0 then -1 else F (i - 1)
def GoodTo (len : Int) (F : Nat → Int) (k : Nat) : Prop := ∀ i, i < k → aheadF F i < F i ∧ F i < len
def MayP (row len : Int) (n : Nat) (F : Nat → Int) : Prop := 0 ≤ row ∧ row ≤ 9007199254740992 ∧ 1 ≤ len ∧ len ≤ 1048576 ∧ 0 < n ∧ GoodTo len F n
instance (len : Int) (F : Nat → Int) (k : Nat) : Decidable (GoodTo len F k) := by unfold GoodTo; infer_instance
instance (row len : Int) (n : Nat) (F : Nat → Int) : Decidable (MayP row len n F) := by unfold MayP; infer_instance
def mayB (row len : Int) (n : Nat) (F : Nat → Int) : Bool := decide (MayP row len n F)
theorem good_succ {len : Int} {F : Nat → Int} {k : Nat} (h : GoodTo len F k) (h1 : aheadF F k < F k) (h2 : F k < len) : GoodTo len F (k + 1) := fun i hi => by
  by_cases e : i = k
  · subst e; exact ⟨h1, h2⟩
  · exact h i (by omega)
theorem good_zero (len : Int) (F : Nat → Int) : GoodTo len F 0 := fun i hi => absurd hi (by omega)
theorem good_ge {len : Int} {F : Nat → Int} {k : Nat} (h : GoodTo len F k) : ∀ i, i < k → (i : Int) ≤ F i := by
  intro i
  induction i with
  | zero => intro hi; have := (h 0 hi).1; unfold aheadF at this; rw [if_pos rfl] at this; omega
  | succ i ih =>
    intro hi
    have h1 := ih (by omega)
    have h2 := (h (i + 1) hi).1
    unfold aheadF at h2
    rw [if_neg (by omega), Nat.add_sub_cancel] at h2
    omega
theorem may_len {row len : Int} {n : Nat} {F : Nat → Int} (h : MayP row len n F) : n ≤ 1048576 := by
  obtain ⟨_, _, _, h4, h5, h6⟩ := h
  have h1 := good_ge h6 (n - 1) (by omega)
  have h2 := (h6 (n - 1) (by omega)).2
  omega
theorem good_mono {len : Int} {F : Nat → Int} {k : Nat} (h : GoodTo len F k) : ∀ i j, i < j → j < k → F i < F j := by
  intro i j
  induction j with
  | zero => intro hi; omega
  | succ j ih =>
    intro hi hj
    have h2 := (h (j + 1) hj).1
    unfold aheadF at h2
    rw [if_neg (by omega), Nat.add_sub_cancel] at h2
    by_cases e : i = j
    · subst e; exact h2
    · have := ih (by omega) (by omega); omega
theorem aheadF_succ (F : Nat → Int) (k : Nat) : aheadF F (k + 1) = F k := by unfold aheadF; rw [if_neg (by omega), Nat.add_sub_cancel]
/-- Is a number among the first m? -/
def amongB (G : Nat → Int) (m : Nat) (x : Int) : Bool := decide (∃ j, j < m ∧ G j = x)
/-- The places that follow: of the first k. -/
def folL (F : Nat → Int) (G : Nat → Int) (m : Nat) (d : Int) : Nat → List Int
  | 0 => []
  | k + 1 => if amongB G m (F k + d) = true then folL F G m d k ++ [F k] else folL F G m d k
theorem fol_yes {F G : Nat → Int} {m k : Nat} {d : Int} (h : amongB G m (F k + d) = true) : folL F G m d (k + 1) = folL F G m d k ++ [F k] := if_pos h
theorem fol_no {F G : Nat → Int} {m k : Nat} {d : Int} (h : amongB G m (F k + d) = false) : folL F G m d (k + 1) = folL F G m d k := if_neg (by rw [h]; simp)
theorem fol_len (F G : Nat → Int) (m k : Nat) (d : Int) : (folL F G m d k).length ≤ k := by
  induction k with
  | zero => simp [folL]
  | succ k ih =>
    rw [folL]
    split
    · rw [List.length_append, List.length_singleton]; omega
    · omega
theorem fol_mem (F G : Nat → Int) (m k : Nat) (d : Int) : ∀ x ∈ folL F G m d k, ∃ i, i < k ∧ x = F i := by
  induction k with
  | zero => intro x hx; simp [folL] at hx
  | succ k ih =>
    intro x hx
    rw [folL] at hx
    split at hx
    · rw [List.mem_append] at hx
      rcases hx with hx | hx
      · obtain ⟨i, hi, e⟩ := ih x hx; exact ⟨i, by omega, e⟩
      · simp at hx; exact ⟨k, by omega, hx⟩
    · obtain ⟨i, hi, e⟩ := ih x hx; exact ⟨i, by omega, e⟩
def FolP (row1 len1 : Int) (n : Nat) (F : Nat → Int) (row2 len2 : Int) (m : Nat) (G : Nat → Int) (d : Int) : Prop := 1 ≤ d ∧ d ≤ 1048576 ∧ row1 = row2 ∧ MayP row1 len1 n F ∧ MayP row2 len2 m G
instance (row1 len1 : Int) (n : Nat) (F : Nat → Int) (row2 len2 : Int) (m : Nat) (G : Nat → Int) (d : Int) : Decidable (FolP row1 len1 n F row2 len2 m G d) := by unfold FolP; infer_instance
def followL (row1 len1 : Int) (n : Nat) (F : Nat → Int) (row2 len2 : Int) (m : Nat) (G : Nat → Int) (d : Int) : List Int := if FolP row1 len1 n F row2 len2 m G d then folL F G m d n else []
end Go.Proofs.Ythpfaaindkkpcaa
