/- the law BlockTops walked. -/
import Derived.Test.YthpfaaindkkpcaaBOf
import Derived.Test.YthpfaaindkkpcaaBRefRight
namespace Go.Proofs.Ythpfaaindkkpcaa
open Go.RowKit Go.Maps
set_option linter.unusedVariables false
set_option linter.unusedSimpArgs false

section
variable {Q P : Nat → Pst} {n : Nat}
theorem rows_same (h : ∀ i, i < n → SameP (Q i) (P i)) {k : Nat} (hk : k ≤ n) : aheadF (rowsF Q) k = aheadF (rowsF P) k := by
  unfold aheadF rowsF
  split
  · rfl
  · exact (h (k - 1) (by omega)).1
theorem right_same (h : ∀ i, i < n → SameP (Q i) (P i)) : rightB n Q = rightB n P := by
  apply decide_eq_decide.2
  have hh : ∀ k, k ≤ n → (RightTo Q k ↔ RightTo P k) := fun k hk => by
    constructor
    · intro z i hi
      obtain ⟨a, b, c, d⟩ := h i (by omega)
      have := z i hi
      rw [rows_same h (by omega), a, b, c, d] at this
      exact this
    · intro z i hi
      obtain ⟨a, b, c, d⟩ := h i (by omega)
      have := z i hi
      rw [← rows_same h (by omega), ← a, ← b, ← c, ← d] at this
      exact this
  exact ⟨fun z => ⟨z.1, (hh n (Nat.le_refl _)).1 z.2⟩, fun z => ⟨z.1, (hh n (Nat.le_refl _)).2 z.2⟩⟩
theorem top_same (h : ∀ i, i < n → SameP (Q i) (P i)) : ∀ k, k ≤ n → topN Q k = topN P k ∧ lowL Q k = lowL P k := by
  intro k
  induction k with
  | zero => intro _; exact ⟨rfl, rfl⟩
  | succ k ih =>
    intro hk
    obtain ⟨a, b⟩ := ih (by omega)
    obtain ⟨_, c, d, _⟩ := h k (by omega)
    exact ⟨by rw [topN, topN, a, d], by rw [lowL, lowL, b, c]⟩
end
theorem right_lens {n : Nat} {P : Nat → Pst} (h : rightB n P = true) : ∀ i, i < n → (P i).len ≤ 1048576 := fun i hi => ((of_decide_eq_true h : RightP n P).2 i hi).2.2.2.2.1
/-- Has one of the first k just so many places, just that length? -/
def hasN (P : Nat → Pst) (t : Nat) (k : Nat) : Bool := decide (∃ i, i < k ∧ (P i).n = t)
def hasL (P : Nat → Pst) (l : Int) (k : Nat) : Bool := decide (∃ i, i < k ∧ (P i).len = l)
theorem hasN_succ (P : Nat → Pst) (t k : Nat) : hasN P t (k + 1) = (hasN P t k || decide ((P k).n = t)) := by
  unfold hasN
  rw [Bool.eq_iff_iff, Bool.or_eq_true, decide_eq_true_eq, decide_eq_true_eq, decide_eq_true_eq]
  constructor
  · rintro ⟨j, hj, h⟩
    by_cases e : j = k
    · subst e; exact .inr h
    · exact .inl ⟨j, by omega, h⟩
  · rintro (⟨j, hj, h⟩ | h)
    · exact ⟨j, by omega, h⟩
    · exact ⟨k, by omega, h⟩
theorem hasL_succ (P : Nat → Pst) (l : Int) (k : Nat) : hasL P l (k + 1) = (hasL P l k || decide ((P k).len = l)) := by
  unfold hasL
  rw [Bool.eq_iff_iff, Bool.or_eq_true, decide_eq_true_eq, decide_eq_true_eq, decide_eq_true_eq]
  constructor
  · rintro ⟨j, hj, h⟩
    by_cases e : j = k
    · subst e; exact .inr h
    · exact .inl ⟨j, by omega, h⟩
  · rintro (⟨j, hj, h⟩ | h)
    · exact ⟨j, by omega, h⟩
    · exact ⟨k, by omega, h⟩
/-- What Top gives. -/
def topsV (n : Nat) (P : Nat → Pst) : Nat × Int := if n = 0 ∨ rightB n P = false then (0, 0) else (topN P n, lowL P n)
theorem tops_same {Q P : Nat → Pst} {n : Nat} (h : ∀ i, i < n → SameP (Q i) (P i)) : topsV n Q = topsV n P := by
  unfold topsV
  rw [right_same h, (top_same h n (Nat.le_refl _)).1, (top_same h n (Nat.le_refl _)).2]
/-- of, then Top. -/
theorem of_is {A : Option Addr} {n c : Nat} {P : Nat → Pst} (w : World) (hI : Psts w A n P) (hl : LightP n P) :
    Calls Try.prog 12 #[.slice A n c] w fun e w' => ∃ A' c' Q, e = .returned (.slice A' n c') ∧ Psts w' A' n Q ∧ (∀ i, i < n → SameP (Q i) (P i)) ∧ Below w.heap.size w w' :=
  of_any A n c P w hI hl.1 hl.2
theorem bool_cast (a b : Nat) : ((a : Int) == (b : Int)) = (false || decide (a = b)) := by
  rw [Bool.false_or, Bool.eq_iff_iff, beq_iff_eq, decide_eq_true_eq]; omega
theorem bool_int (a b : Int) : (a == b) = (false || decide (a = b)) := by
  rw [Bool.false_or, Bool.eq_iff_iff, beq_iff_eq, decide_eq_true_eq]
end Go.Proofs.Ythpfaaindkkpcaa
