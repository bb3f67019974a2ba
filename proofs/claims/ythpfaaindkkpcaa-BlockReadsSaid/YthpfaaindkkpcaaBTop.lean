/- block.Top: every row of postings. -/
import Derived.Test.YthpfaaindkkpcaaBAwake
import Derived.Deep.QuietTactic
import Derived.BigQuiet
import Derived.RegionTactic
import Derived.ChangeAlike
namespace Go.Proofs.Ythpfaaindkkpcaa
open Go.RowKit Go.Maps
set_option linter.unusedVariables false
set_option linter.unusedSimpArgs false

def topN (P : Nat → Pst) : Nat → Nat
  | 0 => 0
  | k + 1 => max (topN P k) (P k).n
def lowL (P : Nat → Pst) : Nat → Int
  | 0 => 1048576
  | k + 1 => min (lowL P k) (P k).len
theorem top_le (P : Nat → Pst) : ∀ k i, i < k → (P i).n ≤ topN P k := by
  intro k
  induction k with
  | zero => intro i hi; omega
  | succ k ih =>
    intro i hi
    rw [topN]
    by_cases e : i = k
    · subst e; omega
    · have := ih i (by omega); omega
theorem top_is (P : Nat → Pst) : ∀ k, 0 < k → ∃ i, i < k ∧ (P i).n = topN P k := by
  intro k
  induction k with
  | zero => intro h; omega
  | succ k ih =>
    intro _
    rw [topN]
    by_cases h : topN P k ≤ (P k).n
    · exact ⟨k, by omega, by omega⟩
    · have hk : 0 < k := by
        rcases Nat.eq_zero_or_pos k with h0 | h0
        · subst h0; simp [topN] at h
        · exact h0
      obtain ⟨i, hi, e⟩ := ih hk
      exact ⟨i, by omega, by omega⟩
theorem low_ge (P : Nat → Pst) : ∀ k i, i < k → lowL P k ≤ (P i).len := by
  intro k
  induction k with
  | zero => intro i hi; omega
  | succ k ih =>
    intro i hi
    rw [lowL]
    by_cases e : i = k
    · subst e; omega
    · have := ih i (by omega); omega
theorem low_is (P : Nat → Pst) : ∀ k, 0 < k → (∀ i, i < k → (P i).len ≤ 1048576) → ∃ i, i < k ∧ (P i).len = lowL P k := by
  intro k
  induction k with
  | zero => intro h; omega
  | succ k ih =>
    intro _ hb
    rw [lowL]
    by_cases h : (P k).len ≤ lowL P k
    · exact ⟨k, by omega, by omega⟩
    · have hk : 0 < k := by
        rcases Nat.eq_zero_or_pos k with h0 | h0
        · subst h0; have := hb 0 (by omega); simp [lowL] at h; omega
        · exact h0
      obtain ⟨i, hi, e⟩ := ih hk (fun i hi => hb i (by omega))
      exact ⟨i, by omega, by omega⟩
end Go.Proofs.Ythpfaaindkkpcaa
