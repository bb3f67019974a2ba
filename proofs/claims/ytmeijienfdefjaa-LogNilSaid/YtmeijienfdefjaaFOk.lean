/- When bytes are a sector: the program's conditions, and the document's. -/
import Derived.Test.YtmeijienfdefjaaFSec
namespace Go.Proofs.Ytmeijienfdefjaa

theorem leTo_leF (v : Nat) : ∀ n, leTo (leF v) n = v % 256 ^ n
  | 0 => by simp [leTo, Nat.mod_one]
  | n + 1 => by
    rw [leTo, leTo_leF v n, leF, Nat.pow_succ, Nat.mod_mul, Nat.mul_comm]
theorem leTo_digit {F : Nat → Nat} : ∀ {n i : Nat}, (∀ i, i < n → F i < 256) → i < n → leF (leTo F n) i = F i
  | 0, _, _, h => absurd h (by omega)
  | n + 1, i, hF, hi => by
    have h1 := leTo_lt (F := F) (n := n) fun i hi => hF i (by omega)
    unfold leF
    rw [leTo]
    rcases Nat.lt_or_ge i n with h | h
    · have ih := leTo_digit (F := F) (n := n) (i := i) (fun i hi => hF i (by omega)) h
      unfold leF at ih
      have e : F n * 256 ^ n = 256 ^ i * (256 * (F n * 256 ^ (n - i - 1))) := by
        have e2 : (256 : Nat) ^ n = 256 ^ i * (256 * 256 ^ (n - i - 1)) := by
          rw [← Nat.pow_succ', ← Nat.pow_add]
          congr 1
          omega
        rw [e2]
        simp only [Nat.mul_left_comm]
      rw [e, Nat.add_mul_div_left _ _ (Nat.pow_pos (by omega)), Nat.add_mul_mod_self_left]
      exact ih
    · obtain rfl : i = n := by omega
      have hp : 0 < (256 : Nat) ^ i := Nat.pow_pos (by omega)
      rw [Nat.add_mul_div_right _ _ hp, Nat.div_eq_of_lt h1, Nat.zero_add]
      exact Nat.mod_eq_of_lt (hF i (by omega))
theorem leTo_eq {F : Nat → Nat} {n v : Nat} (hv : v < 256 ^ n) (h : ∀ i, i < n → F i = leF v i) : leTo F n = v := by
  rw [leTo_congr h, leTo_leF, Nat.mod_eq_of_lt hv]

/-- What the program asks of a sector's bytes (m: where the check stands). -/
def okP (F : Nat → Nat) (m : Nat) : Prop :=
  (1 ≤ leTo F 8 ∧ leTo F 8 ≤ 4611686018427387904) ∧ pairB F (leTo F 8) = true ∧ pairB (fun i => F (m + 4 + i)) (leTo F 8) = true ∧ leTo (fun i => F (m + i)) 4 = crc F m
/-- What the document asks: it is the sector of its own mark and load. -/
def secP (F : Nat → Nat) (m : Nat) : Prop :=
  (1 ≤ leTo F 8 ∧ leTo F 8 ≤ 4611686018427387904) ∧ ∀ i, i < m + 20 → secF m (leTo F 8) (m - 16) (fun j => F (16 + j)) i = F i

theorem pair_head {G : Nat → Nat} {v : Nat} (hv : v < 18446744073709551616) (hG : ∀ i, i < 16 → G i < 256) : pairB G v = true ↔ ∀ i, i < 16 → headF v i = G i := by
  have e8 : (256 : Nat) ^ 8 = 18446744073709551616 := by decide
  constructor
  · intro h i hi
    obtain ⟨h1, h2⟩ := of_decide_eq_true h
    unfold headF
    by_cases h8 : i < 8
    · rw [if_pos h8, ← h1]
      exact leTo_digit (n := 8) (fun i hi => hG i (by omega)) h8
    · rw [if_neg h8]
      have h3 := leTo_digit (F := fun i => G (8 + i)) (n := 8) (i := i - 8) (fun i hi => hG _ (by omega)) (by omega)
      rw [h2] at h3
      have e : 8 + (i - 8) = i := by omega
      simp only [e] at h3
      rw [← h3]
      unfold leF
      rw [not_byte hv (by omega)]
  · intro h
    refine decide_eq_true ⟨leTo_eq (by rw [e8]; exact hv) fun i hi => ?_, leTo_eq (by rw [e8]; omega) fun i hi => ?_⟩
    · rw [← h i (by omega)]
      unfold headF
      rw [if_pos hi]
    · show G (8 + i) = _
      rw [← h (8 + i) (by omega)]
      unfold headF leF
      rw [if_neg (by omega), not_byte hv hi, Nat.add_sub_cancel_left]

theorem secF_head {m v n : Nat} {G : Nat → Nat} (hv : v < 18446744073709551616) (hm : 16 ≤ m) {i : Nat} (hi : i < 16) : secF m v n G i = headF v i := by
  unfold secF
  rw [pairF_at hv, if_neg (by omega)]
  unfold putF
  rw [if_neg (by omega)]
  unfold bodyF copyF
  rw [if_neg (by omega), pairF_at hv, if_pos (by omega), Nat.sub_zero]
theorem secF_load {m v n : Nat} {G : Nat → Nat} (hv : v < 18446744073709551616) {i : Nat} (h1 : 16 ≤ i) (h2 : i < 16 + n) (h3 : i < m) : secF m v n G i = G (i - 16) := by
  unfold secF
  rw [pairF_at hv, if_neg (by omega)]
  unfold putF
  rw [if_neg (by omega)]
  unfold bodyF copyF
  rw [if_pos (by omega)]
theorem secF_zero {m v n : Nat} {G : Nat → Nat} (hv : v < 18446744073709551616) {i : Nat} (h1 : 16 + n ≤ i) (h3 : i < m) : secF m v n G i = 0 := by
  unfold secF
  rw [pairF_at hv, if_neg (by omega)]
  unfold putF
  rw [if_neg (by omega)]
  unfold bodyF copyF
  rw [if_neg (by omega), pairF_at hv, if_neg (by omega)]
  rfl
theorem secF_body {m v n : Nat} {G : Nat → Nat} (hv : v < 18446744073709551616) {i : Nat} (h3 : i < m) : secF m v n G i = bodyF v n G i := by
  unfold secF
  rw [pairF_at hv, if_neg (by omega)]
  unfold putF
  rw [if_neg (by omega)]
theorem secF_sum {m v n : Nat} {G : Nat → Nat} (hv : v < 18446744073709551616) {i : Nat} (h : i < 4) : secF m v n G (m + i) = leF (crc (bodyF v n G) m) i := by
  unfold secF
  rw [pairF_at hv, if_neg (by omega)]
  unfold putF leF
  rw [if_pos (by omega), Nat.add_sub_cancel_left]
theorem secF_tail {m v n : Nat} {G : Nat → Nat} (hv : v < 18446744073709551616) {i : Nat} (h : i < 16) : secF m v n G (m + 4 + i) = headF v i := by
  unfold secF
  rw [pairF_at hv, if_pos (by omega), Nat.add_sub_cancel_left]

theorem ok_iff {F : Nat → Nat} {m : Nat} (hm : 44 ≤ m) (hF : ∀ i, i < m + 20 → F i < 256) : okP F m ↔ secP F m := by
  unfold okP secP
  refine and_congr_right fun ⟨_, hv2⟩ => ?_
  generalize hvv : leTo F 8 = v at *
  have hv : v < 18446744073709551616 := by omega
  have e4 : (256 : Nat) ^ 4 = 4294967296 := by decide
  rw [pair_head hv fun i hi => hF i (by omega), pair_head hv fun i hi => hF _ (by omega)]
  constructor
  · rintro ⟨p1, p2, p3⟩ i hi
    have hbody : ∀ j, j < m → bodyF v (m - 16) (fun j => F (16 + j)) j = F j := fun j hj => by
      rw [← secF_body hv hj]
      by_cases h16 : j < 16
      · rw [secF_head hv (by omega) h16]
        exact p1 j h16
      · rw [secF_load hv (by omega) (by omega) hj]
        show F (16 + (j - 16)) = F j
        congr 1
        omega
    by_cases h1 : i < m
    · rw [secF_body hv h1]
      exact hbody i h1
    · by_cases h2 : i < m + 4
      · obtain ⟨k, rfl⟩ : ∃ k, i = m + k := ⟨i - m, by omega⟩
        rw [secF_sum hv (by omega), crc_congr hbody, ← p3]
        exact leTo_digit (F := fun i => F (m + i)) (n := 4) (fun i hi => hF _ (by omega)) (by omega)
      · obtain ⟨k, rfl⟩ : ∃ k, i = m + 4 + k := ⟨i - (m + 4), by omega⟩
        rw [secF_tail hv (by omega)]
        exact p2 k (by omega)
  · intro h
    refine ⟨fun i hi => ?_, fun i hi => ?_, leTo_eq (by rw [e4]; exact crc_lt _ _) fun i hi => ?_⟩
    · rw [← h i (by omega), secF_head hv (by omega) hi]
    · rw [← h (m + 4 + i) (by omega), secF_tail hv hi]
    · show F (m + i) = _
      rw [← h (m + i) (by omega), secF_sum hv hi, crc_congr fun j hj => ?_]
      rw [← secF_body hv hj]
      exact h j (by omega)
end Go.Proofs.Ytmeijienfdefjaa
