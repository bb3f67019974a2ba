/- Bits that are spread and gathered: plain numbers, no program. -/
import Derived.Test.YtihigingddaopaaDoorGPlain
namespace Go.Proofs.YtihigingddaopaaDoor
open Go.RowKit
set_option linter.unusedVariables false

def mk : Nat → Nat
  | 0 => 6148914691236517205
  | 1 => 3689348814741910323
  | 2 => 1085102592571150095
  | 3 => 71777214294589695
  | 4 => 281470681808895
  | _ => 4294967295
def stepS (i n : Nat) : Nat := (n ||| n * 2 ^ 2 ^ i % 18446744073709551616) &&& mk i
def stepG (i n : Nat) : Nat := (n ||| n / 2 ^ 2 ^ i) &&& mk (i + 1)
/-- What is left behind the steps from 4 down to k. -/
def sprTo (x : Nat) : Nat → Nat
  | 0 => x
  | k + 1 => stepS (4 - k) (sprTo x k)
def spreadN (x : Nat) : Nat := sprTo x 5
def gatTo (n : Nat) : Nat → Nat
  | 0 => n &&& mk 0
  | k + 1 => stepG k (gatTo n k)
def gatherN (n : Nat) : Nat := gatTo n 5
theorem mk_lt (i : Nat) : mk i < 18446744073709551616 := by unfold mk; split <;> omega
theorem stepS_lt (i n : Nat) : stepS i n < 18446744073709551616 := Nat.lt_of_le_of_lt Nat.and_le_right (mk_lt i)
theorem stepG_lt (i n : Nat) : stepG i n < 18446744073709551616 := Nat.lt_of_le_of_lt Nat.and_le_right (mk_lt (i + 1))
theorem sprTo_lt {x : Nat} (h : x < 18446744073709551616) : ∀ k, sprTo x k < 18446744073709551616
  | 0 => h
  | k + 1 => stepS_lt _ _
theorem gatTo_lt (n : Nat) : ∀ k, gatTo n k < 18446744073709551616
  | 0 => Nat.lt_of_le_of_lt Nat.and_le_right (mk_lt 0)
  | k + 1 => stepG_lt _ _
theorem and_or_r (a b c : Nat) : (a ||| b) &&& c = (a &&& c) ||| (b &&& c) := by
  apply Nat.eq_of_testBit_eq
  intro j
  simp [Nat.testBit_and, Nat.testBit_or, Bool.and_or_distrib_right]
theorem or4 (a b c d : Nat) : (a ||| b) ||| (c ||| d) = (a ||| c) ||| (b ||| d) := by
  apply Nat.eq_of_testBit_eq
  intro j
  simp only [Nat.testBit_or]
  cases a.testBit j <;> cases b.testBit j <;> cases c.testBit j <;> cases d.testBit j <;> rfl
theorem or_mul (a b i : Nat) : (a ||| b) * 2 ^ i = a * 2 ^ i ||| b * 2 ^ i := by
  rw [← Nat.shiftLeft_eq, ← Nat.shiftLeft_eq, ← Nat.shiftLeft_eq, Nat.shiftLeft_or_distrib]
theorem or_div (a b i : Nat) : (a ||| b) / 2 ^ i = a / 2 ^ i ||| b / 2 ^ i := by
  rw [← Nat.shiftRight_eq_div_pow, ← Nat.shiftRight_eq_div_pow, ← Nat.shiftRight_eq_div_pow, Nat.shiftRight_or_distrib]
theorem or_mod (a b : Nat) : (a ||| b) % 18446744073709551616 = a % 18446744073709551616 ||| b % 18446744073709551616 := by
  rw [show 18446744073709551616 = 2 ^ 64 from rfl, Nat.or_mod_two_pow]
theorem stepS_or (i a b : Nat) : stepS i (a ||| b) = stepS i a ||| stepS i b := by
  unfold stepS
  rw [or_mul, or_mod, or4, and_or_r]
theorem stepG_or (i a b : Nat) : stepG i (a ||| b) = stepG i a ||| stepG i b := by
  unfold stepG
  rw [or_div, or4, and_or_r]
theorem spread_or (a b : Nat) : spreadN (a ||| b) = spreadN a ||| spreadN b := by
  unfold spreadN
  simp only [sprTo, stepS_or]
theorem gather_or (a b : Nat) : gatherN (a ||| b) = gatherN a ||| gatherN b := by
  unfold gatherN
  simp only [gatTo, stepG_or, and_or_r]
theorem spread_pow : ∀ k, k < 32 → spreadN (2 ^ k) = 4 ^ k := by decide +kernel
theorem gather_pow : ∀ k, k < 64 → gatherN (2 ^ k) = if k % 2 = 0 then 2 ^ (k / 2) else 0 := by decide +kernel
/-- Bit j of x at place 2 j, of the first k. -/
def Sb (x : Nat) : Nat → Nat
  | 0 => 0
  | k + 1 => Sb x k + x / 2 ^ k % 2 * 4 ^ k
/-- Bit 2 j of n at place j, of the first k. -/
def Gb (n : Nat) : Nat → Nat
  | 0 => 0
  | k + 1 => Gb n k + n / 4 ^ k % 2 * 2 ^ k
theorem Sb_le (x : Nat) : ∀ k, 3 * Sb x k + 1 ≤ 4 ^ k
  | 0 => by simp [Sb]
  | k + 1 => by
    have h := Sb_le x k
    have h2 : x / 2 ^ k % 2 < 2 := Nat.mod_lt _ (by omega)
    unfold Sb
    rw [Nat.pow_succ]
    generalize x / 2 ^ k % 2 = b at *
    obtain rfl | rfl : b = 0 ∨ b = 1 := by omega
    · omega
    · omega
theorem Gb_lt (n : Nat) : ∀ k, Gb n k < 2 ^ k
  | 0 => by simp [Gb]
  | k + 1 => by
    have h := Gb_lt n k
    have h2 : n / 4 ^ k % 2 < 2 := Nat.mod_lt _ (by omega)
    unfold Gb
    rw [Nat.pow_succ]
    generalize n / 4 ^ k % 2 = b at *
    obtain rfl | rfl : b = 0 ∨ b = 1 := by omega
    · omega
    · omega
theorem pow4 (k : Nat) : (4 : Nat) ^ k = 2 ^ (2 * k) := by rw [Nat.pow_mul]
/-- What is spread, of the first k bits. -/
theorem spread_mod (x : Nat) : ∀ k, k ≤ 32 → spreadN (x % 2 ^ k) = Sb x k
  | 0, _ => by rw [Nat.pow_zero, Nat.mod_one]; rfl
  | k + 1, h => by
    have ih := spread_mod x k (by omega)
    have hb := Sb_le x k
    rw [Nat.pow_succ, Nat.mod_mul]
    have h2 : x / 2 ^ k % 2 < 2 := Nat.mod_lt _ (by omega)
    have hlt : x % 2 ^ k < 2 ^ k := Nat.mod_lt _ (Nat.two_pow_pos k)
    unfold Sb
    generalize x / 2 ^ k % 2 = b at *
    obtain rfl | rfl : b = 0 ∨ b = 1 := by omega
    · rw [Nat.mul_zero, Nat.add_zero, ih, Nat.zero_mul, Nat.add_zero]
    · rw [Nat.add_comm, Nat.two_pow_add_eq_or_of_lt hlt 1, spread_or, ih, Nat.mul_one, spread_pow k (by omega), Nat.one_mul]
      have e := Nat.two_pow_add_eq_or_of_lt (b := Sb x k) (i := 2 * k) (by rw [← pow4]; omega) 1
      rw [Nat.mul_one, ← pow4] at e
      omega
theorem spread_eq {x : Nat} (h : x < 4294967296) : spreadN x = Sb x 32 := by
  rw [← spread_mod x 32 (Nat.le_refl _), Nat.mod_eq_of_lt h]
def Gh (n : Nat) : Nat → Nat
  | 0 => 0
  | k + 1 => Gh n k + (if k % 2 = 0 then n / 2 ^ k % 2 * 2 ^ (k / 2) else 0)
theorem Gh_two (n : Nat) : ∀ m, Gh n (2 * m) = Gb n m
  | 0 => rfl
  | m + 1 => by
    rw [show 2 * (m + 1) = 2 * m + 1 + 1 by omega]
    unfold Gh
    rw [if_neg (by omega)]
    unfold Gh
    rw [if_pos (by omega), Gh_two n m, show 2 * m / 2 = m by omega, ← pow4]
    rfl
theorem Gh_lt (n : Nat) : ∀ k, Gh n k < 2 ^ ((k + 1) / 2)
  | 0 => by simp [Gh]
  | k + 1 => by
    have h := Gh_lt n k
    have h2 : n / 2 ^ k % 2 < 2 := Nat.mod_lt _ (by omega)
    unfold Gh
    by_cases hk : k % 2 = 0
    · rw [if_pos hk, show (k + 1 + 1) / 2 = k / 2 + 1 by omega, Nat.pow_succ]
      rw [show (k + 1) / 2 = k / 2 by omega] at h
      generalize n / 2 ^ k % 2 = b at *
      obtain rfl | rfl : b = 0 ∨ b = 1 := by omega
      · omega
      · omega
    · rw [if_neg hk, show (k + 1 + 1) / 2 = (k + 1) / 2 by omega]
      omega
theorem gather_mod (n : Nat) : ∀ k, k ≤ 64 → gatherN (n % 2 ^ k) = Gh n k
  | 0, _ => by rw [Nat.pow_zero, Nat.mod_one]; rfl
  | k + 1, h => by
    have ih := gather_mod n k (by omega)
    have hb := Gh_lt n k
    rw [Nat.pow_succ, Nat.mod_mul]
    have h2 : n / 2 ^ k % 2 < 2 := Nat.mod_lt _ (by omega)
    have hlt : n % 2 ^ k < 2 ^ k := Nat.mod_lt _ (Nat.two_pow_pos k)
    unfold Gh
    generalize n / 2 ^ k % 2 = b at *
    obtain rfl | rfl : b = 0 ∨ b = 1 := by omega
    · rw [Nat.mul_zero, Nat.add_zero, ih]; split <;> omega
    · rw [Nat.add_comm, Nat.two_pow_add_eq_or_of_lt hlt 1, gather_or, ih, Nat.mul_one, gather_pow k (by omega)]
      by_cases hk : k % 2 = 0
      · rw [if_pos hk, if_pos hk, Nat.one_mul]
        rw [show (k + 1) / 2 = k / 2 by omega] at hb
        have e := Nat.two_pow_add_eq_or_of_lt (b := Gh n k) (i := k / 2) hb 1
        rw [Nat.mul_one] at e
        omega
      · rw [if_neg hk, if_neg hk, Nat.zero_or]
        rfl
theorem gather_eq {n : Nat} (h : n < 18446744073709551616) : gatherN n = Gb n 32 := by
  rw [← Gh_two n 32, ← gather_mod n 64 (Nat.le_refl _), Nat.mod_eq_of_lt h]
/-- The lowest bit first. -/
theorem Sb_low (x : Nat) : ∀ k, Sb x (k + 1) = x % 2 + 4 * Sb (x / 2) k
  | 0 => by simp [Sb]
  | k + 1 => by
    have ih := Sb_low x k
    rw [show Sb x (k + 1 + 1) = Sb x (k + 1) + x / 2 ^ (k + 1) % 2 * 4 ^ (k + 1) from rfl, ih]
    rw [show Sb (x / 2) (k + 1) = Sb (x / 2) k + x / 2 / 2 ^ k % 2 * 4 ^ k from rfl, Nat.div_div_eq_div_mul, Nat.pow_succ, Nat.mul_comm (2 ^ k) 2, Nat.pow_succ, Nat.mul_comm (4 ^ k) 4, Nat.mul_left_comm, Nat.mul_add, Nat.add_assoc]
theorem Gb_low (n : Nat) : ∀ k, Gb n (k + 1) = n % 2 + 2 * Gb (n / 4) k
  | 0 => by simp [Gb]
  | k + 1 => by
    have ih := Gb_low n k
    rw [show Gb n (k + 1 + 1) = Gb n (k + 1) + n / 4 ^ (k + 1) % 2 * 2 ^ (k + 1) from rfl, ih]
    rw [show Gb (n / 4) (k + 1) = Gb (n / 4) k + n / 4 / 4 ^ k % 2 * 2 ^ k from rfl, Nat.div_div_eq_div_mul, Nat.pow_succ, Nat.mul_comm (4 ^ k) 4, Nat.pow_succ, Nat.mul_comm (2 ^ k) 2, Nat.mul_left_comm, Nat.mul_add, Nat.add_assoc]
/-- Two numbers' bits in turn, of the first k. -/
def mixN (x y k : Nat) : Nat := 2 * Sb x k + Sb y k
theorem mix_low (x y k : Nat) : mixN x y (k + 1) = y % 2 + 2 * (x % 2) + 4 * mixN (x / 2) (y / 2) k := by
  unfold mixN; rw [Sb_low, Sb_low]; omega
theorem mix_lt (x y k : Nat) : mixN x y k < 4 ^ k := by
  have h1 := Sb_le x k
  have h2 := Sb_le y k
  unfold mixN; omega
theorem or_two (i a b A B : Nat) (hA : A < 2 ^ i) (hB : B < 2 ^ i) : (2 ^ i * a + A) ||| (2 ^ i * b + B) = 2 ^ i * (a ||| b) + (A ||| B) := by
  have h : A ||| B < 2 ^ i := Nat.or_lt_two_pow hA hB
  rw [Nat.two_pow_add_eq_or_of_lt hA, Nat.two_pow_add_eq_or_of_lt hB, Nat.two_pow_add_eq_or_of_lt h, or4, Nat.mul_comm (2 ^ i) (a ||| b), or_mul, Nat.mul_comm a, Nat.mul_comm b]
theorem bits_two (a b : Nat) (ha : a < 2) (hb : b < 2) : 2 * a ||| b = 2 * a + b := by
  obtain rfl | rfl : a = 0 ∨ a = 1 := by omega
  · obtain rfl | rfl : b = 0 ∨ b = 1 := by omega
    · rfl
    · rfl
  · obtain rfl | rfl : b = 0 ∨ b = 1 := by omega
    · rfl
    · rfl
theorem mix_top (x y k : Nat) : mixN x y (k + 1) = 2 ^ (2 * k) * (2 * (x / 2 ^ k % 2) + y / 2 ^ k % 2) + mixN x y k := by
  unfold mixN
  rw [show Sb x (k + 1) = Sb x k + x / 2 ^ k % 2 * 4 ^ k from rfl, show Sb y (k + 1) = Sb y k + y / 2 ^ k % 2 * 4 ^ k from rfl, ← pow4, Nat.mul_add, Nat.mul_add, Nat.mul_left_comm (4 ^ k) 2, Nat.mul_comm (4 ^ k) (x / 2 ^ k % 2), Nat.mul_comm (4 ^ k) (y / 2 ^ k % 2)]
  omega
theorem mix_or (x y : Nat) : ∀ k, (2 * Sb x k) ||| Sb y k = mixN x y k
  | 0 => by simp [Sb, mixN]
  | k + 1 => by
    have ih := mix_or x y k
    have h1 := Sb_le x k
    have h2 := Sb_le y k
    rw [mix_top, ← ih, ← bits_two _ _ (Nat.mod_lt _ (by omega)) (Nat.mod_lt _ (by omega)), ← or_two _ _ _ _ _ (by rw [← pow4]; omega) (by rw [← pow4]; omega)]
    rw [show Sb x (k + 1) = Sb x k + x / 2 ^ k % 2 * 4 ^ k from rfl, show Sb y (k + 1) = Sb y k + y / 2 ^ k % 2 * 4 ^ k from rfl, ← pow4, Nat.mul_add, Nat.mul_left_comm (4 ^ k), Nat.mul_comm (4 ^ k) (x / 2 ^ k % 2), Nat.mul_comm (4 ^ k) (y / 2 ^ k % 2), Nat.add_comm (2 * Sb x k), Nat.add_comm (Sb y k)]
/-- A number's sides. -/
theorem gather_y (x y : Nat) : ∀ k, Gb (mixN x y k) k = y % 2 ^ k := by
  intro k
  induction k generalizing x y with
  | zero => simp [Gb, Nat.mod_one]
  | succ k ih =>
    rw [Gb_low, mix_low, show (y % 2 + 2 * (x % 2) + 4 * mixN (x / 2) (y / 2) k) % 2 = y % 2 by omega, show (y % 2 + 2 * (x % 2) + 4 * mixN (x / 2) (y / 2) k) / 4 = mixN (x / 2) (y / 2) k by omega, ih, Nat.pow_succ, Nat.mul_comm (2 ^ k) 2, Nat.mod_mul]
theorem gather_x (x y : Nat) : ∀ k, Gb (mixN x y k / 2) k = x % 2 ^ k := by
  intro k
  induction k generalizing x y with
  | zero => simp [Gb, Nat.mod_one]
  | succ k ih =>
    rw [Gb_low, mix_low, show (y % 2 + 2 * (x % 2) + 4 * mixN (x / 2) (y / 2) k) / 2 % 2 = x % 2 by omega, show (y % 2 + 2 * (x % 2) + 4 * mixN (x / 2) (y / 2) k) / 2 / 4 = mixN (x / 2) (y / 2) k / 2 by omega, ih, Nat.pow_succ, Nat.mul_comm (2 ^ k) 2, Nat.mod_mul]
theorem mix_gather (n : Nat) : ∀ k, mixN (Gb (n / 2) k) (Gb n k) k = n % 4 ^ k := by
  intro k
  induction k generalizing n with
  | zero => simp [mixN, Sb, Nat.mod_one]
  | succ k ih =>
    rw [mix_low, Gb_low, Gb_low, show (n / 2 % 2 + 2 * Gb (n / 2 / 4) k) / 2 = Gb (n / 2 / 4) k by omega, show (n % 2 + 2 * Gb (n / 4) k) / 2 = Gb (n / 4) k by omega, show n / 2 / 4 = n / 4 / 2 by omega, ih, Nat.pow_succ, Nat.mul_comm (4 ^ k) 4, Nat.mod_mul]
    omega
end Go.Proofs.YtihigingddaopaaDoor
