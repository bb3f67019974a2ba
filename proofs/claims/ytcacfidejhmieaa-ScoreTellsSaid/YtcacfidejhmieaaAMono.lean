/- score: what the laws say of shares and weights, plain. -/
import Derived.Test.YtcacfidejhmieaaATells
namespace Go.Proofs.Ytcacfidejhmieaa
set_option linter.unusedVariables false
theorem quo_le {a b c d : Int} (hb : 0 < b) (hd : 0 < d) (ha : 0 ≤ a) (h : a * d ≤ c * b) : a / b ≤ c / d := by
  rw [Int.le_ediv_iff_mul_le hd]
  have h1 : a / b * b ≤ a := Int.ediv_mul_le _ (by omega)
  have h0 : 0 ≤ a / b := Int.ediv_nonneg ha (by omega)
  have h2 : a / b * b * d ≤ a * d := Int.mul_le_mul_of_nonneg_right h1 (by omega)
  have h3 : (a / b * d) * b ≤ c * b := by
    rw [Int.mul_right_comm]; exact Int.le_trans h2 h
  exact Int.le_of_mul_le_mul_right h3 hb
theorem share_mono {T L tf len tf2 len2 : Int} (h1 : countedB T L tf len = true) (h2 : countedB T L tf2 len2 = true) (ht : tf ≤ tf2) (hl : len2 ≤ len) : shareV T L tf len ≤ shareV T L tf2 len2 := by
  obtain ⟨a1, a2, a3, a4, a5, a6, a7, a8⟩ := counted_yes h1
  obtain ⟨c1, c2, c3, c4, c5, c6, c7, c8⟩ := counted_yes h2
  obtain ⟨b1, b2, b3, b4, b5⟩ := share_parts h1
  obtain ⟨d1, d2, d3, d4, d5⟩ := share_parts h2
  have hq : 900 * len2 * T / max L 1 ≤ 900 * len * T / max L 1 := Int.ediv_le_ediv (by omega) (Int.mul_le_mul_of_nonneg_right (by omega) (by omega))
  unfold shareV
  rw [if_pos h1, if_pos h2]
  generalize 900 * len2 * T / max L 1 = q2 at *
  generalize 900 * len * T / max L 1 = q1 at *
  have h : 2200000 * tf / (1000 * tf + 300 + q1) ≤ 2200000 * tf2 / (1000 * tf2 + 300 + q2) := by
    refine quo_le (by omega) (by omega) (by omega) ?_
    have e1 : tf * q2 ≤ tf2 * q1 := Int.mul_le_mul ht hq d4 (by omega)
    have e2 : 2200000 * tf * (1000 * tf2 + 300 + q2) = 2200000000 * (tf * tf2) + 660000000 * tf + 2200000 * (tf * q2) := by
      simp only [Int.mul_add, Int.mul_assoc]
      rw [Int.mul_left_comm tf 1000 tf2]; omega
    have e3 : 2200000 * tf2 * (1000 * tf + 300 + q1) = 2200000000 * (tf * tf2) + 660000000 * tf2 + 2200000 * (tf2 * q1) := by
      simp only [Int.mul_add, Int.mul_assoc]
      rw [Int.mul_left_comm tf2 1000 tf, Int.mul_comm tf2 tf]; omega
    omega
  omega
theorem weight_pos {T df : Int} (h : knownB T df = true) : 1 ≤ weightV T df := by unfold weightV; rw [if_pos h]; omega
theorem share_pos {T L tf len : Int} (h : countedB T L tf len = true) : 1 ≤ shareV T L tf len := by
  obtain ⟨a1, a2, a3, a4, a5, a6, a7, a8⟩ := counted_yes h
  obtain ⟨b1, b2, b3, b4, b5⟩ := share_parts h
  unfold shareV; rw [if_pos h]
  have : 0 ≤ 2200000 * tf / (1000 * tf + 300 + 900 * len * T / max L 1) := Int.ediv_nonneg (by omega) (by omega)
  omega
theorem weight_zero {T df : Int} (h : knownB T df = false) : weightV T df = 0 := by unfold weightV; rw [if_neg (by rw [h]; simp)]
theorem share_zero {T L tf len : Int} (h : countedB T L tf len = false) : shareV T L tf len = 0 := by unfold shareV; rw [if_neg (by rw [h]; simp)]
theorem score_right {T L df tf len : Int} (h : rightB T L df tf len = true) : 1 ≤ scoreV T L df tf len := by
  unfold rightB at h
  rw [Bool.and_eq_true] at h
  have := Int.mul_le_mul (weight_pos h.1) (share_pos h.2) (by omega) (by have := (weight_bd T df).1; omega)
  unfold scoreV; omega
theorem score_wrong {T L df tf len : Int} (h : rightB T L df tf len = false) : scoreV T L df tf len = 0 := by
  unfold rightB at h
  rw [Bool.and_eq_false_iff] at h
  unfold scoreV
  rcases h with h | h
  · rw [weight_zero h, Int.zero_mul]
  · rw [share_zero h, Int.mul_zero]
theorem score_mono {T L df tf len tf2 len2 : Int} (h1 : rightB T L df tf len = true) (h2 : rightB T L df tf2 len2 = true) (ht : tf ≤ tf2) (hl : len2 ≤ len) : scoreV T L df tf len ≤ scoreV T L df tf2 len2 := by
  unfold rightB at h1 h2
  rw [Bool.and_eq_true] at h1 h2
  exact Int.mul_le_mul_of_nonneg_left (share_mono h1.2 h2.2 ht hl) (weight_bd T df).1
theorem weight_mono {T df df2 : Int} (h : knownB T df = true) (hd : df ≤ df2) : weightV T df2 ≤ weightV T df := by
  cases h2 : knownB T df2 with
  | false => rw [weight_zero h2]; exact (weight_bd T df).1
  | true =>
    obtain ⟨a1, a2, a3, a4⟩ := known_yes h
    obtain ⟨b1, b2, b3, b4⟩ := known_yes h2
    have hq : (T + df2) / df2 ≤ (T + df) / df := by
      refine quo_le (by omega) (by omega) (by omega) ?_
      rw [Int.add_mul, Int.add_mul, Int.mul_comm df2 df]
      have := Int.mul_le_mul_of_nonneg_left hd (show 0 ≤ T by omega)
      omega
    have := log_mono (n := ((T + df2) / df2).toNat) (m := ((T + df) / df).toNat) (by omega)
    unfold weightV
    rw [if_pos h, if_pos h2]
    omega
theorem weight_all {T : Int} (h1 : 1 ≤ T) (h2 : T ≤ 4294967296) : weightV T T = 257 := by
  have hk : knownB T T = true := decide_eq_true (by omega)
  unfold weightV
  rw [if_pos hk, show (T + T) / T = 2 by rw [← Int.two_mul, Int.mul_ediv_cancel _ (by omega)]]
  decide +kernel
end Go.Proofs.Ytcacfidejhmieaa
