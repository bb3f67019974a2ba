/- What is torn is found out: the plain part. -/
import Derived.Test.YtmkpknjhbkbafaaFTurn
namespace Go.Proofs.Ytmkpknjhbkbafaa

theorem okP_congr {F G : Nat → Nat} {m : Nat} (hm : 44 ≤ m) (h : ∀ i, i < m + 20 → F i = G i) (hok : okP F m) : okP G m := by
  have e1 : leTo F 8 = leTo G 8 := leTo_congr fun i hi => h i (by omega)
  have e2 : leTo (fun i => F (8 + i)) 8 = leTo (fun i => G (8 + i)) 8 := leTo_congr fun i hi => h _ (by omega)
  have e3 : leTo (fun i => F (m + 4 + i)) 8 = leTo (fun i => G (m + 4 + i)) 8 := leTo_congr fun i hi => h _ (by omega)
  have e4 : leTo (fun i => F (m + 4 + (8 + i))) 8 = leTo (fun i => G (m + 4 + (8 + i))) 8 := leTo_congr fun i hi => h _ (by omega)
  have e5 : leTo (fun i => F (m + i)) 4 = leTo (fun i => G (m + i)) 4 := leTo_congr fun i hi => h _ (by omega)
  have e6 : crc F m = crc G m := crc_congr fun i hi => h i (by omega)
  unfold okP pairB at hok ⊢
  rw [← e1, ← e2, ← e3, ← e4, ← e5, ← e6]
  exact hok

/-- Bytes of a sector of mark M, as far as its marks go. -/
def Marked (S : Nat → Nat) (m M : Nat) : Prop := (∀ i, i < 16 → S i = headF M i) ∧ (∀ i, i < 16 → S (m + 4 + i) = headF M i)
theorem sec_marked {m v n : Nat} {G : Nat → Nat} (hv : v < 18446744073709551616) (hm : 16 ≤ m) : Marked (secF m v n G) m v :=
  ⟨fun _ hi => secF_head hv hm hi, fun _ hi => secF_tail hv hi⟩
theorem low_eq {v M : Nat} (hv : v < 18446744073709551616) (hM : M < 18446744073709551616) (h : ∀ i, i < 8 → headF v i = headF M i) : v = M := by
  have h1 := leTo_head hv (F := headF M) h
  have h2 := leTo_head hM (F := headF M) fun i _ => rfl
  omega
theorem high_eq {v M : Nat} (hv : v < 18446744073709551616) (hM : M < 18446744073709551616) (h : ∀ i, 8 ≤ i → i < 16 → headF v i = headF M i) : v = M := by
  refine low_eq hv hM fun i hi => ?_
  have h1 := h (8 + i) (by omega) (by omega)
  unfold headF at h1 ⊢
  rw [if_neg (by omega), if_neg (by omega), Nat.add_sub_cancel_left] at h1
  rw [if_pos hi, if_pos hi]
  have := leF_lt v i
  have := leF_lt M i
  omega
theorem high_zero {v : Nat} (hv : v ≤ 4611686018427387904) (h : ∀ i, 8 ≤ i → i < 16 → headF v i = 0) : False := by
  have h1 := h 15 (by omega) (by omega)
  unfold headF leF at h1
  rw [if_neg (by omega)] at h1
  have e : (256 : Nat) ^ (15 - 8) = 72057594037927936 := by decide
  rw [e] at h1
  omega

def tornF (base S1 S2 : Nat → Nat) (c1 c2 : Nat) : Nat → Nat := copyF (copyF base 0 c1 S1) 0 c2 S2
theorem torn_at (base S1 S2 : Nat → Nat) (c1 c2 i : Nat) : tornF base S1 S2 c1 c2 i = if i < c2 then S2 i else if i < c1 then S1 i else base i := by
  unfold tornF copyF
  simp only [Nat.zero_le, true_and, Nat.zero_add, Nat.sub_zero]

/-- First pieces of two sectors upon a third one, or upon 0: what is read as a sector is just one of them. -/
theorem torn_one {m M0 M1 M2 c1 c2 : Nat} {base S1 S2 : Nat → Nat} {zero : Bool} (hm : 44 ≤ m)
    (h0 : zero = false → Marked base m M0) (hz : zero = true → ∀ i, base i = 0) (h1 : Marked S1 m M1) (h2 : Marked S2 m M2)
    (v0 : M0 ≤ 4611686018427387904) (v1 : M1 ≤ 4611686018427387904) (v2 : M2 ≤ 4611686018427387904) (n01 : zero = false → M0 ≠ M1) (n02 : zero = false → M0 ≠ M2) (n12 : M1 ≠ M2)
    (hF : ∀ i, i < m + 20 → tornF base S1 S2 c1 c2 i < 256) (hok : okP (tornF base S1 S2 c1 c2) m) :
    (∀ i, i < m + 20 → tornF base S1 S2 c1 c2 i = S2 i) ∨ (∀ i, i < m + 20 → tornF base S1 S2 c1 c2 i = S1 i) ∨ (zero = false ∧ ∀ i, i < m + 20 → tornF base S1 S2 c1 c2 i = base i) := by
  obtain ⟨hh, ht⟩ := ok_head hm hF hok
  have hv2 := hok.1.2
  generalize leTo (tornF base S1 S2 c1 c2) 8 = v at hh ht hv2
  have hv : v < 18446744073709551616 := by omega
  simp only [torn_at] at hh ht ⊢
  -- the end of the tail is the base's: it has the base's mark
  have base_high : (∀ i, 8 ≤ i → i < 16 → headF v i = base (m + 4 + i)) → zero = false ∧ v = M0 := fun h => by
    cases zero with
    | true => exact absurd (fun i a b => (h i a b).trans (hz rfl _)) (fun q => high_zero hv2 q)
    | false => exact ⟨rfl, high_eq hv (by omega) fun i a b => (h i a b).trans ((h0 rfl).2 i b)⟩
  by_cases a : 16 ≤ c2
  · have e2 : v = M2 := low_eq hv (by omega) fun i hi => by
      have := hh i (by omega)
      rw [if_pos (by omega)] at this
      rw [this, h2.1 i (by omega)]
    by_cases b : m + 4 ≤ c2
    · refine .inl fun i hi => ?_
      by_cases c : i < c2
      · rw [if_pos c]
      · obtain ⟨k, rfl⟩ : ∃ k, i = m + 4 + k := ⟨i - (m + 4), by omega⟩
        rw [← ht k (by omega), e2, h2.2 k (by omega)]
    · by_cases d : m + 12 ≤ c1
      · have e1 : v = M1 := low_eq hv (by omega) fun i hi => by
          have := ht i (by omega)
          rw [if_neg (by omega), if_pos (by omega)] at this
          rw [this, h1.2 i (by omega)]
        omega
      · have e0 := base_high fun i x y => by
          have := ht i y
          rw [if_neg (by omega), if_neg (by omega)] at this
          exact this
        exact absurd (e0.2.symm.trans e2) (n02 e0.1)
  · by_cases d : m + 12 ≤ c1
    · have e1 : v = M1 := low_eq hv (by omega) fun i hi => by
        have := ht i (by omega)
        rw [if_neg (by omega), if_pos (by omega)] at this
        rw [this, h1.2 i (by omega)]
      refine .inr (.inl fun i hi => ?_)
      by_cases x : i < 16
      · rw [← hh i x, e1, h1.1 i x]
      · by_cases y : i < c1
        · rw [if_neg (by omega), if_pos y]
        · obtain ⟨k, rfl⟩ : ∃ k, i = m + 4 + k := ⟨i - (m + 4), by omega⟩
          rw [← ht k (by omega), e1, h1.2 k (by omega)]
    · have e0 := base_high fun i x y => by
        have := ht i y
        rw [if_neg (by omega), if_neg (by omega)] at this
        exact this
      by_cases f : 16 ≤ c1
      · by_cases g : c2 ≤ 8
        · have e1 : v = M1 := high_eq hv (by omega) fun i x y => by
            have := hh i y
            rw [if_neg (by omega), if_pos (by omega)] at this
            rw [this, h1.1 i y]
          exact absurd (e0.2.symm.trans e1) (n01 e0.1)
        · have e2 : v = M2 := low_eq hv (by omega) fun i hi => by
            have := hh i (by omega)
            rw [if_pos (by omega)] at this
            rw [this, h2.1 i (by omega)]
          exact absurd (e0.2.symm.trans e2) (n02 e0.1)
      · refine .inr (.inr ⟨e0.1, fun i hi => ?_⟩)
        by_cases x : i < 16
        · rw [← hh i x, e0.2, (h0 e0.1).1 i x]
        · rw [if_neg (by omega), if_neg (by omega)]
end Go.Proofs.Ytmkpknjhbkbafaa
