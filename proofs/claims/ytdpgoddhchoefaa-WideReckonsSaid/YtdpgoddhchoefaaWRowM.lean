/- Figures of base 65536: plain words, no program. -/
import Derived.Test.YtdpgoddhchoefaaWPlain
namespace Go.Proofs.Ytdpgoddhchoefaa
open Go.RowKit
set_option linter.unusedVariables false

/-- Figure i of a number. -/
def rowF (x : Int) (i : Nat) : Int := x / 65536 ^ i % 65536
theorem rowF_bd (x : Int) (i : Nat) : 0 ≤ rowF x i ∧ rowF x i < 65536 := by unfold rowF; omega
theorem pow_pos' (i : Nat) : (0 : Int) < 65536 ^ i := Int.pow_pos (by omega)
theorem div_next (x : Int) (i : Nat) : x / 65536 ^ (i + 1) = x / 65536 ^ i / 65536 := by
  rw [Int.pow_succ, Int.ediv_ediv_of_nonneg (Int.le_of_lt (pow_pos' i))]
theorem div_step (x : Int) (i : Nat) : x / 65536 ^ i = x / 65536 ^ (i + 1) * 65536 + rowF x i := by
  rw [div_next]; unfold rowF; omega
def sumR (F : Nat → Int) : Nat → Int
  | 0 => 0
  | n + 1 => sumR F n + F n * 65536 ^ n
/-- What goes over to the next figure. -/
theorem sum_over (F : Nat → Int) (k : Nat) : sumR F (k + 1) / 65536 ^ k = F k + sumR F k / 65536 ^ k := by
  show (sumR F k + F k * 65536 ^ k) / 65536 ^ k = _
  rw [Int.add_mul_ediv_right _ _ (Int.ne_of_gt (pow_pos' k)), Int.add_comm]
theorem sum_mod_next (F : Nat → Int) (n : Nat) : ∀ m, n < m → sumR F m / 65536 ^ n % 65536 = sumR F (n + 1) / 65536 ^ n % 65536
  | 0, h => absurd h (by omega)
  | m + 1, h => by
    by_cases e : n = m
    · subst e; rfl
    · have ih := sum_mod_next F n m (by omega)
      show (sumR F m + F m * 65536 ^ m) / 65536 ^ n % 65536 = _
      have hp : (65536 : Int) ^ m = 65536 ^ (m - n - 1) * 65536 * 65536 ^ n := by
        rw [← Int.pow_succ, ← Int.pow_add]; congr 1; omega
      rw [hp, ← Int.mul_assoc, Int.add_mul_ediv_right _ _ (Int.ne_of_gt (pow_pos' n)), ← Int.mul_assoc, Int.add_mul_emod_self_right, ih]
theorem sum_fig (F : Nat → Int) (k m : Nat) (h : k < m) : rowF (sumR F m) k = (F k + sumR F k / 65536 ^ k) % 65536 := by
  unfold rowF
  rw [sum_mod_next F k m h, sum_over]
theorem sum_next (F : Nat → Int) (k : Nat) : sumR F (k + 1) / 65536 ^ (k + 1) = (F k + sumR F k / 65536 ^ k) / 65536 := by
  rw [div_next, sum_over]
/-- The same modulo 2^128: the same eight figures. -/
theorem row_cong {x y : Int} (h : x % 340282366920938463463374607431768211456 = y % 340282366920938463463374607431768211456) (i : Nat) (hi : i < 8) : rowF x i = rowF y i := by
  unfold rowF
  rcases i with _ | _ | _ | _ | _ | _ | _ | _ | i <;> first | omega | (simp only [Nat.reduceAdd, Int.reducePow, Int.pow_zero, Int.ediv_one]; omega)
theorem sum_row (x : Int) : sumR (rowF x) 8 = x % 340282366920938463463374607431768211456 := by
  simp only [sumR, rowF, Int.reducePow, Int.pow_zero, Int.ediv_one]
  omega
theorem sum_cong (F G : Nat → Int) : ∀ n, (∀ i, i < n → F i = G i) → sumR F n = sumR G n
  | 0, _ => rfl
  | n + 1, h => by
    show sumR F n + F n * _ = sumR G n + G n * _
    rw [sum_cong F G n fun i hi => h i (by omega), h n (by omega)]
theorem sum_plus (F G : Nat → Int) (n : Nat) : sumR (fun i => F i + G i) n = sumR F n + sumR G n := by
  induction n with
  | zero => rfl
  | succ n ih => simp only [sumR, ih, Int.add_mul]; omega
theorem sum_less (F G : Nat → Int) (n : Nat) : sumR (fun i => F i - G i) n = sumR F n - sumR G n := by
  induction n with
  | zero => rfl
  | succ n ih => simp only [sumR, ih, Int.sub_mul]; omega
/-- Sums and differences, figure by figure. -/
theorem row_plus (x y : Int) (i : Nat) (hi : i < 8) : rowF (sumR (fun i => rowF x i + rowF y i) 8) i = rowF (x + y) i := by
  refine row_cong ?_ i hi
  rw [sum_plus, sum_row, sum_row]
  omega
theorem row_less (x y : Int) (i : Nat) (hi : i < 8) : rowF (sumR (fun i => rowF x i - rowF y i) 8) i = rowF (x - y) i := by
  refine row_cong ?_ i hi
  rw [sum_less, sum_row, sum_row]
  omega
def updI (F : Nat → Int) (t : Nat) (v : Int) : Nat → Int := fun j => if j = t then v else F j
theorem upd_at (F : Nat → Int) (t : Nat) (v : Int) : updI F t v t = v := if_pos rfl
theorem upd_off (F : Nat → Int) (t : Nat) (v : Int) (j : Nat) (h : j ≠ t) : updI F t v j = F j := if_neg h
theorem sumI_out (F : Nat → Int) (t : Nat) (v : Int) : ∀ n, n ≤ t → sumR (updI F t v) n = sumR F n
  | 0, _ => rfl
  | n + 1, h => by
    show sumR (updI F t v) n + updI F t v n * _ = sumR F n + F n * _
    rw [sumI_out F t v n (by omega), upd_off F t v n (by omega)]
theorem sumI_add (F : Nat → Int) (t : Nat) (x : Int) : ∀ n, t < n → sumR (updI F t (F t + x)) n = sumR F n + x * 65536 ^ t
  | 0, h => absurd h (by omega)
  | n + 1, h => by
    show sumR (updI F t _) n + updI F t _ n * _ = sumR F n + F n * _ + _
    by_cases e : t = n
    · subst e
      rw [sumI_out F t _ t (Nat.le_refl _), upd_at, Int.add_mul]; omega
    · rw [sumI_add F t x n (by omega), upd_off F t _ n (by omega)]; omega
/-- Signs. -/
theorem row_neg (x : Int) : (32768 ≤ rowF x 7) ↔ svW x < 0 := by
  simp only [rowF, Int.reducePow, svW, hiW, loW]; omega
theorem row_zero (x : Int) (h : ∀ i, i < 8 → rowF x i = 0) : svW x = 0 := by
  have h0 : sumR (rowF x) 8 = sumR (fun _ => 0) 8 := sum_cong _ _ 8 h
  rw [sum_row] at h0
  have h1 : sumR (fun _ => 0) 8 = 0 := rfl
  rw [h1] at h0
  unfold svW hiW loW; omega
theorem row_some (x : Int) (i : Nat) (hi : i < 8) (h : rowF x i ≠ 0) : svW x ≠ 0 := fun e => h (by
  have : x % 340282366920938463463374607431768211456 = 0 % 340282366920938463463374607431768211456 := by have := sv_cong x; rw [e] at this; exact this.symm
  rw [row_cong this i hi]
  unfold rowF
  simp)
/-- The number without its sign, as the figures have it. -/
def unW (x : Int) : Int := x % 340282366920938463463374607431768211456
theorem un_row (x : Int) (i : Nat) (hi : i < 8) : rowF (unW x) i = rowF x i := row_cong (by unfold unW; omega) i hi
theorem un_bd (x : Int) : 0 ≤ unW x ∧ unW x < 340282366920938463463374607431768211456 := by unfold unW; omega
theorem un_top (x : Int) : unW x / 65536 ^ 8 = 0 := by have := un_bd x; simp only [Int.reducePow]; omega
theorem un_lt {x y : Int} {i : Nat} (hi : i < 8) (h : unW x / 65536 ^ (i + 1) = unW y / 65536 ^ (i + 1)) (hl : rowF x i < rowF y i) : unW x < unW y := by
  have hx := div_step (unW x) i
  have hy := div_step (unW y) i
  rw [un_row x i hi] at hx
  rw [un_row y i hi] at hy
  have : unW x / 65536 ^ i < unW y / 65536 ^ i := by omega
  rcases Int.lt_or_le (unW x) (unW y) with h1 | h1
  · exact h1
  · have := Int.ediv_le_ediv (pow_pos' i) h1
    omega
theorem un_eq {x y : Int} {i : Nat} (hi : i < 8) (h : unW x / 65536 ^ (i + 1) = unW y / 65536 ^ (i + 1)) (hl : rowF x i = rowF y i) : unW x / 65536 ^ i = unW y / 65536 ^ i := by
  have hx := div_step (unW x) i
  have hy := div_step (unW y) i
  rw [un_row x i hi] at hx
  rw [un_row y i hi] at hy
  omega
theorem sv_un (x : Int) : (svW x < 0 ∧ svW x = unW x - 340282366920938463463374607431768211456) ∨ (0 ≤ svW x ∧ svW x = unW x) := by
  unfold svW hiW loW unW; omega
end Go.Proofs.Ytdpgoddhchoefaa
