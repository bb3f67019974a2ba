/- One byte that is another one is found out: the plain part. -/
import Derived.Test.YtmkpknjhbkbafaaFOk
import Derived.Test.YtmkpknjhbkbafaaFBack
namespace Go.Proofs.Ytmkpknjhbkbafaa

theorem xor_cancel {a b p : Nat} (h : a ^^^ p = b ^^^ p) : a = b := by
  have h2 := congrArg (fun x => x ^^^ p) h
  simpa only [Nat.xor_assoc, Nat.xor_self, Nat.xor_zero] using h2
theorem stp_bit {c : Nat} (h : c < 4294967296) : (stp c).testBit 31 = decide (c % 2 = 1) := by
  have hs : (c / 2).testBit 31 = false := Nat.testBit_lt_two_pow (by omega)
  unfold stp
  by_cases ho : c % 2 = 1
  · rw [if_pos ho, Nat.testBit_xor, hs]
    simp only [ho]
    decide
  · rw [if_neg ho, hs]
    simp [ho]
theorem stp_inj {c d : Nat} (hc : c < 4294967296) (hd : d < 4294967296) (h : stp c = stp d) : c = d := by
  have h1 := stp_bit hc
  have h2 := stp_bit hd
  rw [h, h2] at h1
  have h3 := decide_eq_decide.1 h1
  unfold stp at h
  by_cases ho : c % 2 = 1
  · rw [if_pos ho, if_pos (h3.2 ho)] at h
    have := xor_cancel h
    have := h3.2 ho
    omega
  · have hd2 : ¬ d % 2 = 1 := fun q => ho (h3.1 q)
    rw [if_neg ho, if_neg hd2] at h
    omega
theorem stpN_inj {c d : Nat} (hc : c < 4294967296) (hd : d < 4294967296) : ∀ k, stpN k c = stpN k d → c = d
  | 0, h => h
  | k + 1, h => stpN_inj hc hd k (stp_inj (stpN_lt hc k) (stpN_lt hd k) h)
/-- Bytes that differ at one place alone have unlike checks. -/
theorem crcTo_one {F G : Nat → Nat} {k : Nat} (hne : F k ≠ G k) : ∀ {n : Nat}, (∀ i, i < n → F i < 256) → (∀ i, i < n → G i < 256) → (∀ i, i < n → i ≠ k → F i = G i) → k < n → crcTo F n ≠ crcTo G n
  | 0, _, _, _, h => absurd h (by omega)
  | n + 1, hF, hG, hs, hk => by
    have f1 := crcTo_lt (F := F) (n := n) fun i hi => hF i (by omega)
    have g1 := crcTo_lt (F := G) (n := n) fun i hi => hG i (by omega)
    have f2 := hF n (by omega)
    have g2 := hG n (by omega)
    intro h
    have h1 := stpN_inj (xor_lt32 f1 (by omega)) (xor_lt32 g1 (by omega)) 8 h
    by_cases e : k = n
    · subst e
      have hc : crcTo F k = crcTo G k := crcTo_congr fun i hi => hs i (by omega) (by omega)
      rw [hc, Nat.xor_comm, Nat.xor_comm (crcTo G k)] at h1
      exact hne (xor_cancel h1)
    · have hn := hs n (by omega) (fun q => e q.symm)
      rw [hn] at h1
      exact crcTo_one hne (fun i hi => hF i (by omega)) (fun i hi => hG i (by omega)) (fun i hi => hs i (by omega)) (by omega) (xor_cancel h1)
theorem crc_one {F G : Nat → Nat} {k n : Nat} (hne : F k ≠ G k) (hF : ∀ i, i < n → F i < 256) (hG : ∀ i, i < n → G i < 256) (hs : ∀ i, i < n → i ≠ k → F i = G i) (hk : k < n) : crc F n ≠ crc G n := by
  have h := crcTo_one hne hF hG hs hk
  have f1 := crcTo_lt hF
  have g1 := crcTo_lt hG
  unfold crc
  omega

/-- Of bytes that are a sector of mark v: head, tail, check. -/
theorem ok_head {F : Nat → Nat} {m : Nat} (hm : 44 ≤ m) (hF : ∀ i, i < m + 20 → F i < 256) (h : okP F m) : (∀ i, i < 16 → headF (leTo F 8) i = F i) ∧ (∀ i, i < 16 → headF (leTo F 8) i = F (m + 4 + i)) := by
  obtain ⟨⟨_, h2⟩, p1, p2, _⟩ := h
  exact ⟨(pair_head (by omega) fun i hi => hF i (by omega)).1 p1, (pair_head (G := fun i => F (m + 4 + i)) (by omega) fun i hi => hF _ (by omega)).1 p2⟩
theorem leTo_head {v : Nat} (hv : v < 18446744073709551616) {F : Nat → Nat} (h : ∀ i, i < 8 → headF v i = F i) : leTo F 8 = v := by
  have e8 : (256 : Nat) ^ 8 = 18446744073709551616 := by decide
  refine leTo_eq (by rw [e8]; exact hv) fun i hi => ?_
  rw [← h i hi]
  unfold headF
  rw [if_pos hi]

theorem turned {F G : Nat → Nat} {m k : Nat} (hm : 44 ≤ m) (hF : ∀ i, i < m + 20 → F i < 256) (hG : ∀ i, i < m + 20 → G i < 256) (hs : ∀ i, i < m + 20 → i ≠ k → F i = G i) (hk : k < m + 20) (hne : F k ≠ G k) (hok : okP F m) : ¬ okP G m := by
  intro hok2
  obtain ⟨f1, f2⟩ := ok_head hm hF hok
  obtain ⟨g1, g2⟩ := ok_head hm hG hok2
  have vF : leTo F 8 < 18446744073709551616 := by have := hok.1; omega
  have vG : leTo G 8 < 18446744073709551616 := by have := hok2.1; omega
  by_cases h1 : k < 16
  · have e : leTo F 8 = leTo G 8 := by
      have a1 := leTo_head vF (F := fun i => F (m + 4 + i)) fun i hi => f2 i (by omega)
      have a2 := leTo_head vG (F := fun i => G (m + 4 + i)) fun i hi => g2 i (by omega)
      rw [← a1, ← a2]
      exact leTo_congr fun i hi => hs _ (by omega) (by omega)
    exact hne (by rw [← f1 k h1, ← g1 k h1, e])
  · by_cases h2 : k < m
    · have c1 := hok.2.2.2
      have c2 := hok2.2.2.2
      have e : leTo (fun i => F (m + i)) 4 = leTo (fun i => G (m + i)) 4 := leTo_congr fun i hi => hs _ (by omega) (by omega)
      rw [c1, c2] at e
      exact crc_one hne (fun i hi => hF i (by omega)) (fun i hi => hG i (by omega)) (fun i hi => hs i (by omega)) h2 e
    · by_cases h3 : k < m + 4
      · have c1 := hok.2.2.2
        have c2 := hok2.2.2.2
        have e : crc F m = crc G m := crc_congr fun i hi => hs i (by omega) (by omega)
        rw [← c1, ← c2] at e
        have d1 := leTo_digit (F := fun i => F (m + i)) (n := 4) (i := k - m) (fun i hi => hF _ (by omega)) (by omega)
        have d2 := leTo_digit (F := fun i => G (m + i)) (n := 4) (i := k - m) (fun i hi => hG _ (by omega)) (by omega)
        rw [e, d2] at d1
        have ek : m + (k - m) = k := by omega
        rw [ek] at d1
        exact hne d1.symm
      · have e : leTo F 8 = leTo G 8 := leTo_congr fun i hi => hs i (by omega) (by omega)
        have a1 := f2 (k - (m + 4)) (by omega)
        have a2 := g2 (k - (m + 4)) (by omega)
        have ek : m + 4 + (k - (m + 4)) = k := by omega
        rw [ek] at a1 a2
        exact hne (by rw [← a1, ← a2, e])
end Go.Proofs.Ytmkpknjhbkbafaa
