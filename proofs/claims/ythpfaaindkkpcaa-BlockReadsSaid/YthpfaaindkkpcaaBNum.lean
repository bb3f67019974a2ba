/- block: numbers as bytes: plain. -/
import Derived.Test.YthpfaaindkkpcaaBPlain
import Derived.Lib.BitFns
namespace Go.Proofs.Ythpfaaindkkpcaa
set_option linter.unusedVariables false
/-- All pieces of a number but none for 0, each with 128 added. -/
def hiL (n : Nat) : List Nat := if h : n = 0 then [] else hiL (n / 128) ++ [n % 128 + 128]
termination_by n
decreasing_by omega
theorem hi_zero : hiL 0 = [] := by rw [hiL]; simp
theorem hi_pos {n : Nat} (h : n ≠ 0) : hiL n = hiL (n / 128) ++ [n % 128 + 128] := by rw [hiL, dif_neg h]
def numL (n : Nat) : List Nat := hiL (n / 128) ++ [n % 128]
def pcsN (n : Nat) : Nat := Nat.log2 n / 7
theorem pcs_lo {n t : Nat} (h0 : n ≠ 0) (ht : t ≤ pcsN n) : 128 ^ t ≤ n := by
  have h1 : 2 ^ Nat.log2 n ≤ n := Nat.log2_self_le h0
  have h2 : 128 ^ t = 2 ^ (7 * t) := by rw [show (128 : Nat) = 2 ^ 7 by rfl, ← Nat.pow_mul]
  rw [h2]
  exact Nat.le_trans (Nat.pow_le_pow_right (by omega) (by unfold pcsN at ht; omega)) h1
theorem pcs_hi (n : Nat) : n < 128 ^ (pcsN n + 1) := by
  have h1 : n < 2 ^ (Nat.log2 n + 1) := Nat.lt_log2_self
  have h2 : 128 ^ (pcsN n + 1) = 2 ^ (7 * (pcsN n + 1)) := by rw [show (128 : Nat) = 2 ^ 7 by rfl, ← Nat.pow_mul]
  rw [h2]
  exact Nat.lt_of_lt_of_le h1 (Nat.pow_le_pow_right (by omega) (by unfold pcsN; omega))
theorem hi_top (n : Nat) : hiL (n / 128 ^ (pcsN n + 1)) = [] := by rw [Nat.div_eq_of_lt (pcs_hi n), hi_zero]
theorem hi_step {n t : Nat} (h0 : n ≠ 0) (ht : t ≤ pcsN n) : hiL (n / 128 ^ t) = hiL (n / 128 ^ (t + 1)) ++ [n / 128 ^ t % 128 + 128] := by
  have h1 : 1 ≤ n / 128 ^ t := (Nat.one_le_div_iff (Nat.pow_pos (by omega))).2 (pcs_lo h0 ht)
  rw [hi_pos (by omega), Nat.div_div_eq_div_mul, ← Nat.pow_succ]
theorem hi_step2 {n t : Nat} (h1 : 1 ≤ t) (ht : t ≤ pcsN n) : hiL (n / 128 ^ t) = hiL (n / 128 ^ (t + 1)) ++ [n / 128 ^ t % 128 + 128] := by
  refine hi_step ?_ ht
  rintro rfl
  have : pcsN 0 = 0 := by decide
  omega
theorem pcs_le {n : Nat} (h : n < 9223372036854775808) : pcsN n ≤ 8 := by
  unfold pcsN
  by_cases h0 : n = 0
  · subst h0; decide
  · have := (Nat.log2_lt h0 (k := 63)).2 (by simpa using h)
    omega
theorem pow128 (t : Nat) : 2 ^ (t * 7) = 128 ^ t := by rw [show (128 : Nat) = 2 ^ 7 by rfl, ← Nat.pow_mul, Nat.mul_comm]
theorem hi_lt (n : Nat) : ∀ x ∈ hiL n, x < 256 := by
  induction n using Nat.strongRecOn with
  | _ n ih =>
    intro x hx
    by_cases h : n = 0
    · subst h; rw [hi_zero] at hx; cases hx
    · rw [hi_pos h, List.mem_append] at hx
      rcases hx with hx | hx
      · exact ih (n / 128) (by omega) x hx
      · simp at hx; omega
theorem num_lt (n : Nat) : ∀ x ∈ numL n, x < 256 := by
  intro x hx
  unfold numL at hx
  rw [List.mem_append] at hx
  rcases hx with hx | hx
  · exact hi_lt _ x hx
  · simp at hx; omega
theorem hi_len : ∀ (k n : Nat), n < 128 ^ k → (hiL n).length ≤ k := by
  intro k
  induction k with
  | zero => intro n h; have : n = 0 := by simpa using h
            subst this; rw [hi_zero]; simp
  | succ k ih =>
    intro n h
    by_cases h0 : n = 0
    · subst h0; rw [hi_zero]; simp
    · rw [hi_pos h0, List.length_append, List.length_singleton]
      have := ih (n / 128) (by rw [Nat.pow_succ] at h; omega)
      omega
theorem num_len {n : Nat} (h : n < 9223372036854775808) : (numL n).length ≤ 10 := by
  unfold numL
  rw [List.length_append, List.length_singleton]
  have := hi_len 9 (n / 128) (by omega)
  omega
/-- A number, then the one ahead of it plus one: what is put. -/
def gapN (n ahead : Int) : Nat := (n - ahead - 1).toNat
theorem bitAux (f : Nat) : ∀ x, x < 2 ^ f → x ≠ 0 → Lib.bitLenAux f x = Nat.log2 x + 1 := by
  induction f with
  | zero => intro x h h0; omega
  | succ f ih =>
    intro x h h0
    rw [Lib.bitLenAux, if_neg h0]
    by_cases h2 : x / 2 = 0
    · have : x = 1 := by omega
      subst this
      cases f <;> simp [Lib.bitLenAux, Nat.log2_def 1]
    · rw [ih _ (by rw [Nat.pow_succ] at h; omega) h2]
      rw [Nat.log2_def x, if_pos (by omega)]
      omega
theorem bitLen_log {x : Nat} (h : x < 18446744073709551616) (h0 : x ≠ 0) : Lib.bitLen x = Nat.log2 x + 1 := bitAux 64 x h h0
/-- How many pieces, as the program reckons it. -/
theorem pcs_code {n : Nat} (h : n < 9223372036854775808) : max ((Lib.bitLen n : Int) - 1) 0 / 7 = (pcsN n : Int) := by
  by_cases h0 : n = 0
  · subst h0; decide
  · rw [bitLen_log (by omega) h0]; unfold pcsN; omega
end Go.Proofs.Ythpfaaindkkpcaa
