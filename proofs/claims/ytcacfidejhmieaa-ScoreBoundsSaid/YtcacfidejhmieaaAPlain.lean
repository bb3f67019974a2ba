/- score's logarithm: plain. -/
import Derived.WalkKit
namespace Go.Proofs.Ytcacfidejhmieaa
set_option linter.unusedVariables false
/-- One squaring: what is left, and the bit. -/
def stp (x : Nat) : Nat × Bool := if x * x / 1073741824 < 2147483648 then (x * x / 1073741824, false) else (x * x / 1073741824 / 2, true)
def bitF : Nat → Nat → List Bool
  | 0, _ => []
  | k + 1, x => (stp x).2 :: bitF k (stp x).1
def behF : Nat → Nat → Nat → Nat
  | 0, _, a => a
  | k + 1, x, a => behF k (stp x).1 (2 * a + (stp x).2.toNat)
def x0 (n : Nat) : Nat := if 30 < Nat.log2 n then n / 2 ^ (Nat.log2 n - 30) else n * 2 ^ (30 - Nat.log2 n)
def logN (n : Nat) : Nat := if n = 0 then 0 else 256 * Nat.log2 n + behF 8 (x0 n) 0
def InX (x : Nat) : Prop := 1073741824 ≤ x ∧ x < 2147483648
theorem sq_lo {x : Nat} (h : InX x) : 1073741824 ≤ x * x / 1073741824 := by
  have := Nat.mul_le_mul h.1 h.1
  rw [Nat.le_div_iff_mul_le (by omega)]; exact this
theorem sq_hi {x : Nat} (h : InX x) : x * x / 1073741824 < 4294967296 := by
  have : x * x ≤ 2147483647 * 2147483647 := Nat.mul_le_mul (by have := h.2; omega) (by have := h.2; omega)
  rw [Nat.div_lt_iff_lt_mul (by omega)]; omega
theorem sq_le {x : Nat} (h : InX x) : x * x ≤ 4611686014132420609 := Nat.mul_le_mul (show x ≤ 2147483647 by have := h.2; omega) (show x ≤ 2147483647 by have := h.2; omega)
theorem stp_in {x : Nat} (h : InX x) : InX (stp x).1 := by
  have h1 := sq_lo h
  have h2 := sq_hi h
  unfold stp
  split
  · exact ⟨h1, by assumption⟩
  · exact ⟨by dsimp only; omega, by dsimp only; omega⟩
theorem stp_bit (x : Nat) : (stp x).2.toNat = 0 ∨ (stp x).2.toNat = 1 := by cases (stp x).2 <;> simp
theorem stp_yes {x : Nat} (h : x * x / 1073741824 < 2147483648) : stp x = (x * x / 1073741824, false) := if_pos h
theorem stp_no {x : Nat} (h : ¬ x * x / 1073741824 < 2147483648) : stp x = (x * x / 1073741824 / 2, true) := if_neg h
theorem bitF_len (k x : Nat) : (bitF k x).length = k := by
  induction k generalizing x with
  | zero => rfl
  | succ k ih => simp [bitF, ih]
theorem behF_acc (k : Nat) : ∀ x a, behF k x a = a * 2 ^ k + behF k x 0 := by
  induction k with
  | zero => intro x a; simp [behF]
  | succ k ih =>
    intro x a
    rw [behF, ih, behF, ih _ (2 * 0 + (stp x).2.toNat), Nat.pow_succ]
    have : (2 * a + (stp x).2.toNat) * 2 ^ k = a * (2 ^ k * 2) + (stp x).2.toNat * 2 ^ k := by
      rw [Nat.add_mul, Nat.mul_comm 2 a, Nat.mul_assoc, Nat.mul_comm 2]
    rw [this]; simp [Nat.add_assoc]
theorem behF_lt (k : Nat) : ∀ x, behF k x 0 < 2 ^ k := by
  induction k with
  | zero => intro x; simp [behF]
  | succ k ih =>
    intro x
    rw [behF, behF_acc]
    have h1 := ih (stp x).1
    have h2 := stp_bit x
    rw [Nat.pow_succ]
    rcases h2 with h2 | h2 <;> rw [h2] <;> omega
theorem sq_mono {x y : Nat} (h : x ≤ y) : x * x / 1073741824 ≤ y * y / 1073741824 := Nat.div_le_div_right (Nat.mul_le_mul h h)
theorem behF_mono (k : Nat) : ∀ x y, x ≤ y → behF k x 0 ≤ behF k y 0 := by
  induction k with
  | zero => intro x y _; simp [behF]
  | succ k ih =>
    intro x y h
    have hm := sq_mono h
    rw [behF, behF_acc, behF, behF_acc k (stp y).1]
    have l1 := behF_lt k (stp x).1
    by_cases c1 : x * x / 1073741824 < 2147483648
    · by_cases c2 : y * y / 1073741824 < 2147483648
      · have := ih _ _ hm
        rw [stp_yes c1, stp_yes c2]; simp only [Bool.toNat_false]; omega
      · rw [stp_yes c1] at l1 ⊢; rw [stp_no c2]; simp only [Bool.toNat_false, Bool.toNat_true] at l1 ⊢; omega
    · have c2 : ¬ y * y / 1073741824 < 2147483648 := by omega
      have := ih (x * x / 1073741824 / 2) (y * y / 1073741824 / 2) (by omega)
      rw [stp_no c1, stp_no c2]; simp only [Bool.toNat_true]; omega
theorem fold_bits (k : Nat) : ∀ x a, (bitF k x).foldl (fun s b => 2 * s + b.toNat) a = behF k x a := by
  induction k with
  | zero => intro x a; rfl
  | succ k ih => intro x a; rw [bitF, List.foldl_cons, ih]; rfl
theorem lg_lo {n : Nat} (h : n ≠ 0) : 2 ^ Nat.log2 n ≤ n := Nat.log2_self_le h
theorem lg_hi (n : Nat) : n < 2 ^ (Nat.log2 n + 1) := Nat.lt_log2_self
theorem x0_in {n : Nat} (h : n ≠ 0) : InX (x0 n) := by
  have h1 := lg_lo h
  have h2 := lg_hi n
  unfold x0
  generalize Nat.log2 n = e at *
  split
  · rename_i hc
    obtain ⟨d, rfl⟩ : ∃ d, e = 30 + d := ⟨e - 30, by omega⟩
    have e1 : 30 + d - 30 = d := by omega
    rw [e1]
    rw [Nat.pow_add] at h1
    rw [show 30 + d + 1 = 31 + d by omega, Nat.pow_add] at h2
    have hp : 0 < 2 ^ d := Nat.pow_pos (by omega)
    exact ⟨by rw [Nat.le_div_iff_mul_le hp]; exact h1, by rw [Nat.div_lt_iff_lt_mul hp]; exact h2⟩
  · rename_i hc
    obtain ⟨d, hd⟩ : ∃ d, 30 = e + d := ⟨30 - e, by omega⟩
    have e1 : 30 - e = d := by omega
    rw [e1]
    have hp : 0 < 2 ^ d := Nat.pow_pos (by omega)
    have p30 : 2 ^ e * 2 ^ d = 1073741824 := by rw [← Nat.pow_add, ← hd]
    have p31 : 2 ^ (e + 1) * 2 ^ d = 2147483648 := by rw [← Nat.pow_add, show e + 1 + d = 31 by omega]
    exact ⟨by rw [← p30]; exact Nat.mul_le_mul_right _ h1, by rw [← p31]; exact Nat.mul_lt_mul_of_pos_right h2 hp⟩
theorem x0_twice {n : Nat} (h : n ≠ 0) : x0 (2 * n) = x0 n ∧ Nat.log2 (2 * n) = Nat.log2 n + 1 := by
  have hl : Nat.log2 (2 * n) = Nat.log2 n + 1 := Nat.log2_two_mul h
  refine ⟨?_, hl⟩
  unfold x0
  rw [hl]
  generalize Nat.log2 n = e at *
  by_cases c : 30 < e
  · rw [if_pos (by omega), if_pos c, show e + 1 - 30 = (e - 30) + 1 by omega, Nat.pow_succ, Nat.mul_comm (2 ^ (e - 30)) 2, ← Nat.div_div_eq_div_mul, Nat.mul_div_cancel_left _ (by omega)]
  · by_cases c2 : e = 30
    · subst c2; simp
    · rw [if_neg (by omega), if_neg c, show 30 - e = (30 - (e + 1)) + 1 by omega, Nat.pow_succ, Nat.mul_comm 2 n, Nat.mul_assoc, Nat.mul_comm 2]
theorem log_twice {n : Nat} (h : n ≠ 0) : logN (2 * n) = logN n + 256 := by
  obtain ⟨h1, h2⟩ := x0_twice h
  unfold logN
  rw [if_neg (by omega), if_neg h, h1, h2]
  omega
theorem lg_mono {n m : Nat} (h : n ≤ m) (hn : n ≠ 0) : Nat.log2 n ≤ Nat.log2 m := by
  have h1 := lg_lo hn
  have h2 := lg_hi m
  have : 2 ^ Nat.log2 n < 2 ^ (Nat.log2 m + 1) := by omega
  have := (Nat.pow_lt_pow_iff_right (by omega : 1 < 2)).1 this
  omega
theorem x0_mono {n m : Nat} (h : n ≤ m) (e : Nat.log2 n = Nat.log2 m) : x0 n ≤ x0 m := by
  unfold x0
  rw [e]
  split
  · exact Nat.div_le_div_right h
  · exact Nat.mul_le_mul_right _ h
theorem log_mono {n m : Nat} (h : n ≤ m) : logN n ≤ logN m := by
  unfold logN
  by_cases hn : n = 0
  · rw [if_pos hn]; omega
  rw [if_neg hn, if_neg (by omega)]
  have h1 := lg_mono h hn
  by_cases e : Nat.log2 n = Nat.log2 m
  · have := behF_mono 8 _ _ (x0_mono h e)
    omega
  · have := behF_lt 8 (x0 n)
    omega
theorem lg_lt {n k : Nat} (h : n < 2 ^ k) (hn : n ≠ 0) : Nat.log2 n < k := (Nat.log2_lt hn).2 h
theorem log_lt {n k : Nat} (h : n < 2 ^ k) (hk : 0 < k) : logN n < 256 * k := by
  unfold logN
  by_cases hn : n = 0
  · rw [if_pos hn]; omega
  rw [if_neg hn]
  have := lg_lt h hn
  have := behF_lt 8 (x0 n)
  omega
end Go.Proofs.Ytcacfidejhmieaa
