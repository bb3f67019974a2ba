/- A product figure by figure: plain words. -/
import Derived.Test.YtoeddhkbifeamaaDoorNRefDigits
import Derived.Test.YtoeddhkbifeamaaDoorNRefVal
namespace Go.Proofs.YtoeddhkbifeamaaDoor
open Go.RowKit
set_option linter.unusedVariables false

def sumV (F : Nat → Nat) : Nat → Nat
  | 0 => 0
  | n + 1 => sumV F n + F n * 10 ^ n
def updF (F : Nat → Nat) (t v : Nat) : Nat → Nat := fun j => if j = t then v else F j
theorem sum_out (F : Nat → Nat) (t v : Nat) : ∀ n, n ≤ t → sumV (updF F t v) n = sumV F n
  | 0, _ => rfl
  | n + 1, h => by
    have hne : n ≠ t := by omega
    show sumV (updF F t v) n + updF F t v n * 10 ^ n = _
    rw [sum_out F t v n (by omega)]
    unfold updF
    rw [if_neg hne]
    rfl
theorem sum_upd (F : Nat → Nat) (t v : Nat) : ∀ n, t < n → sumV (updF F t v) n + F t * 10 ^ t = sumV F n + v * 10 ^ t
  | 0, h => absurd h (by omega)
  | n + 1, h => by
    show sumV (updF F t v) n + updF F t v n * 10 ^ n + _ = sumV F n + F n * 10 ^ n + _
    by_cases e : t = n
    · subst e
      rw [sum_out F t v t (Nat.le_refl _)]
      unfold updF
      rw [if_pos rfl]
      omega
    · have ih := sum_upd F t v n (by omega)
      have e2 : updF F t v n = F n := by unfold updF; rw [if_neg (by omega)]
      rw [e2]
      omega
theorem sum_add (F : Nat → Nat) (t x n : Nat) (h : t < n) : sumV (updF F t (F t + x)) n = sumV F n + x * 10 ^ t := by
  have := sum_upd F t (F t + x) n h
  rw [Nat.add_mul] at this
  omega
theorem sum_zero (n : Nat) : sumV (fun _ => 0) n = 0 := by
  induction n with
  | zero => rfl
  | succ n ih => show sumV _ n + 0 * 10 ^ n = 0; rw [ih]; simp
theorem sum_ge (F : Nat → Nat) (n : Nat) : ∀ m, n < m → F n * 10 ^ n ≤ sumV F m
  | 0, h => absurd h (by omega)
  | m + 1, h => by
    show _ ≤ sumV F m + F m * 10 ^ m
    by_cases e : n = m
    · subst e; omega
    · have := sum_ge F n m (by omega)
      omega
theorem sum_lt (F : Nat → Nat) : ∀ n, (∀ t, t < n → F t < 10) → sumV F n < 10 ^ n
  | 0, _ => by show 0 < 1; omega
  | n + 1, h => by
    have ih := sum_lt F n fun t ht => h t (by omega)
    have h1 := h n (by omega)
    show sumV F n + F n * 10 ^ n < _
    rw [Nat.pow_succ]
    have : F n * 10 ^ n ≤ 9 * 10 ^ n := Nat.mul_le_mul_right _ (by omega)
    omega
theorem sum_mod (F : Nat → Nat) (n : Nat) : ∀ m, n ≤ m → (∀ t, t < n → F t < 10) → sumV F m % 10 ^ n = sumV F n
  | 0, h, _ => by
    have : n = 0 := by omega
    subst this
    rfl
  | m + 1, h, hd => by
    by_cases e : n = m + 1
    · subst e
      exact Nat.mod_eq_of_lt (sum_lt F _ hd)
    · have ih := sum_mod F n m (by omega) hd
      show (sumV F m + F m * 10 ^ m) % 10 ^ n = _
      have hp : 10 ^ m = 10 ^ n * 10 ^ (m - n) := by rw [← Nat.pow_add]; congr 1; omega
      rw [hp, ← Nat.mul_assoc, Nat.mul_comm (F m) (10 ^ n), Nat.mul_assoc, Nat.add_mul_mod_self_left, ih]
/-- The figures of a number are its. -/
theorem sum_dg (F : Nat → Nat) (n m : Nat) (h : n < m) (hd : ∀ t, t < n + 1 → F t < 10) : dgN (sumV F m) n = F n := by
  have h1 := sum_mod F (n + 1) m (by omega) hd
  have h2 := sum_lt F n fun t ht => hd t (by omega)
  have h3 : sumV F m / 10 ^ n % 10 = (sumV F m % 10 ^ (n + 1)) / 10 ^ n := by
    rw [Nat.pow_succ, Nat.mod_mul_right_div_self]
  unfold dgN
  rw [h3, h1]
  show (sumV F n + F n * 10 ^ n) / 10 ^ n = F n
  rw [Nat.add_mul_div_right _ _ (Nat.pow_pos (by omega)), Nat.div_eq_of_lt h2]
  omega
theorem mod_next (M i : Nat) : M % 10 ^ (i + 1) = M % 10 ^ i + dgN M i * 10 ^ i := by
  unfold dgN
  rw [Nat.pow_succ, Nat.mod_mul, Nat.mul_comm (10 ^ i)]
theorem dg_zero (P : Nat) (h : P % 10 ^ 7 = 0) (i : Nat) (hi : i < 7) : dgN P i = 0 := by
  obtain ⟨k, hk⟩ := Nat.dvd_of_mod_eq_zero h
  unfold dgN
  have hp : 10 ^ 7 = 10 ^ i * (10 ^ (6 - i) * 10) := by rw [← Nat.pow_succ, ← Nat.pow_add]; congr 1; omega
  rw [hk, hp, Nat.mul_assoc, Nat.mul_div_cancel_left _ (Nat.pow_pos (by omega)), Nat.mul_comm (10 ^ (6 - i)) 10, Nat.mul_assoc, Nat.mul_mod_right]
theorem dg_all (P : Nat) : ∀ n, (∀ i, i < n → dgN P i = 0) → P % 10 ^ n = 0
  | 0, _ => by rw [Nat.pow_zero, Nat.mod_one]
  | n + 1, h => by rw [mod_next, dg_all P n fun i hi => h i (by omega), h n (by omega)]; simp
/-- The figures of a number from place 47 down. -/
def figL (P j : Nat) : List UInt8 := (List.range j).map fun t => UInt8.ofNat (48 + dgN P (47 - t))
theorem figL_next (P j : Nat) : figL P (j + 1) = figL P j ++ [UInt8.ofNat (48 + dgN P (47 - j))] := by
  unfold figL
  rw [List.range_succ, List.map_append]
  rfl
theorem dgN_lt (P i : Nat) : dgN P i < 10 := Nat.mod_lt _ (by omega)
theorem figL_figs (P j : Nat) : Figs (figL P j) := by
  intro c hc
  unfold figL at hc
  obtain ⟨t, _, rfl⟩ := List.mem_map.1 hc
  unfold fig
  rw [digit_nat (dgN_lt P _)]
  have := dgN_lt P (47 - t)
  exact decide_eq_true (by omega)
theorem figL_len (P j : Nat) : (figL P j).length = j := by unfold figL; simp
theorem figL_val (P : Nat) (hP : P < 10 ^ 48) : ∀ j, j ≤ 48 → valL (figL P j) = P / 10 ^ (48 - j)
  | 0, _ => by
    show valL [] = _
    rw [Nat.div_eq_of_lt hP]
    rfl
  | j + 1, h => by
    have ih := figL_val P hP j (by omega)
    rw [figL_next, valL_snoc, ih, digit_nat (dgN_lt P _)]
    have e : 48 - j = (47 - j) + 1 := by omega
    have e2 : 48 - (j + 1) = 47 - j := by omega
    rw [e, e2, Nat.pow_succ, ← Nat.div_div_eq_div_mul]
    unfold dgN
    omega
end Go.Proofs.YtoeddhkbifeamaaDoor
