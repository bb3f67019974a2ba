/- Unpack and Pack: plain: a number read back. -/
import Derived.Test.YthpfaaindkkpcaaBAbove
import Derived.Test.YthpfaaindkkpcaaBNum
namespace Go.Proofs.Ythpfaaindkkpcaa
set_option linter.unusedVariables false

/-- The pieces of a number, read behind none: its own number, what is left. -/
theorem rd_hi (most : Int) : ∀ (n : Nat), (n : Int) ≤ most → ∀ xs, rdL most 0 (hiL n ++ xs) = rdL most n xs := by
  intro n
  induction n using Nat.strongRecOn with
  | ind n ih =>
    intro hm xs
    by_cases h0 : n = 0
    · subst h0; rw [hi_zero]; rfl
    · rw [hi_pos h0, List.append_assoc, ih (n / 128) (by omega) (by omega)]
      have e : n / 128 * 128 + (n % 128 + 128) % 128 = n := by omega
      show rdL most (n / 128) ((n % 128 + 128) :: xs) = _
      rw [rdL, e, if_neg (by omega), if_neg (by omega), if_neg h0]
theorem rd_num {most : Int} {n : Nat} (h : (n : Int) ≤ most) (xs : List Nat) : rdL most 0 (numL n ++ xs) = some (n, xs) := by
  unfold numL
  rw [List.append_assoc, rd_hi most (n / 128) (by omega)]
  have e : n / 128 * 128 + n % 128 % 128 = n := by omega
  show rdL most (n / 128) ((n % 128) :: xs) = _
  rw [rdL, e, if_neg (by omega), if_pos (by omega)]
/-- Only a number's own bytes are read as that number. -/
theorem rd_only (most : Int) : ∀ (xs : List Nat) (acc a : Nat) (r : List Nat), (∀ x ∈ xs, x < 256) → rdL most acc xs = some (a, r) → hiL acc ++ xs = numL a ++ r := by
  intro xs
  induction xs with
  | nil => intro acc a r _ h; cases h
  | cons x xs ih =>
    intro acc a r hx h
    have hx0 := hx x (List.mem_cons_self ..)
    rw [rdL] at h
    split at h
    · cases h
    · split at h
      · rename_i h2
        injection h with h
        injection h with h3 h4
        subst h3 h4
        unfold numL
        have e1 : (acc * 128 + x % 128) / 128 = acc := by omega
        have e2 : (acc * 128 + x % 128) % 128 = x := by omega
        rw [e1, e2, List.append_assoc]
        rfl
      · split at h
        · cases h
        · rename_i h2 h3
          have := ih _ _ _ (fun y hy => hx y (List.mem_cons_of_mem _ hy)) h
          rw [← this, hi_pos h3]
          have e1 : (acc * 128 + x % 128) / 128 = acc := by omega
          have e2 : (acc * 128 + x % 128) % 128 + 128 = x := by omega
          rw [e1, e2, List.append_assoc]
          rfl
/-- A number above one ahead, written and read back. -/
theorem ab_gap {ahead most n : Int} (h1 : ahead < n) (h2 : n ≤ most) (xs : List Nat) : abL ahead most (numL (gapN n ahead) ++ xs) = some (n, xs) := by
  have e : ((gapN n ahead : Nat) : Int) = n - ahead - 1 := by unfold gapN; omega
  have h := rd_num (most := most - ahead - 1) (n := gapN n ahead) (by omega) xs
  rw [ab_some h]
  congr 2
  omega
theorem ab_only {ahead most n : Int} {xs r : List Nat} (hx : ∀ x ∈ xs, x < 256) (h : abL ahead most xs = some (n, r)) : xs = numL (gapN n ahead) ++ r := by
  unfold abL at h
  rw [Option.map_eq_some_iff] at h
  obtain ⟨⟨a, r'⟩, h1, h2⟩ := h
  injection h2 with h2 h3
  dsimp only at h2 h3
  subst h3
  have := rd_only _ _ _ _ _ hx h1
  rw [hi_zero, List.nil_append] at this
  have e : gapN n ahead = a := by unfold gapN; omega
  rw [e]; exact this
end Go.Proofs.Ythpfaaindkkpcaa
