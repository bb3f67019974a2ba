/- The bytes of a sector, in the document's own order, are those that Build lays. -/
import Derived.Test.YtmeijienfdefjaaFBuild
import Derived.Test.YtmeijienfdefjaaFBytes
namespace Go.Proofs.Ytmeijienfdefjaa

theorem not_byte {v : Nat} (h : v < 18446744073709551616) {i : Nat} (hi : i < 8) : (18446744073709551615 - v) / 256 ^ i % 256 = 255 - v / 256 ^ i % 256 := by
  rcases i with _ | _ | _ | _ | _ | _ | _ | _ | i
  · simp; omega
  · simp; omega
  · simp; omega
  · simp; omega
  · simp; omega
  · simp; omega
  · simp; omega
  · simp; omega
  · omega

/-- The first sixteen bytes. -/
def headF (mark : Nat) (i : Nat) : Nat := if i < 8 then leF mark i else 255 - leF mark (i - 8)
def padF (mark n : Nat) (F : Nat → Nat) (i : Nat) : Nat := if i < 16 + n then catF (headF mark) 16 F i else 0
def sumF (m mark n : Nat) (F : Nat → Nat) : Nat → Nat := catF (padF mark n F) m (leF (crc (padF mark n F) m))
def refF (m mark n : Nat) (F : Nat → Nat) : Nat → Nat := catF (sumF m mark n F) (m + 4) (sumF m mark n F)

theorem pairF_at {G : Nat → Nat} {off v i : Nat} (hv : v < 18446744073709551616) : pairF G off v i = if off ≤ i ∧ i < off + 16 then headF v (i - off) else G i := by
  unfold pairF putF headF leF
  by_cases h1 : off + 8 ≤ i ∧ i < off + 8 + 8
  · have hk : i - (off + 8) < 8 := by omega
    rw [if_pos h1, if_pos (by omega), if_neg (by omega), not_byte hv hk]
    have e : i - off - 8 = i - (off + 8) := by omega
    rw [e]
  · rw [if_neg h1]
    by_cases h2 : off ≤ i ∧ i < off + 8
    · rw [if_pos h2, if_pos (by omega), if_pos (by omega)]
    · rw [if_neg h2, if_neg (by omega)]

theorem pad_body {mark n : Nat} {F : Nat → Nat} (hv : mark < 18446744073709551616) (i : Nat) : padF mark n F i = bodyF mark n F i := by
  unfold padF bodyF catF copyF
  rw [pairF_at hv]
  by_cases h1 : i < 16
  · rw [if_pos (by omega), if_pos h1, if_neg (by omega), if_pos (by omega), Nat.sub_zero]
  · by_cases h2 : i < 16 + n
    · rw [if_pos h2, if_neg h1, if_pos (by omega)]
    · rw [if_neg h2, if_neg (by omega), if_neg (by omega)]
      rfl

theorem ref_sec {m mark n : Nat} {F : Nat → Nat} (hm : 16 ≤ m) (hv : mark < 18446744073709551616) {i : Nat} (hi : i < m + 20) : refF m mark n F i = secF m mark n F i := by
  have hc : crc (padF mark n F) m = crc (bodyF mark n F) m := crc_congr fun i _ => pad_body hv i
  unfold refF secF
  rw [pairF_at hv]
  unfold sumF
  rw [hc]
  by_cases h1 : i < m + 4
  · unfold catF putF leF
    rw [if_pos h1, if_neg (show ¬ (m + 4 ≤ i ∧ i < m + 4 + 16) by omega)]
    by_cases h2 : i < m
    · rw [if_pos h2, if_neg (by omega)]
      exact pad_body hv i
    · rw [if_neg h2, if_pos (by omega)]
  · have e : i - (m + 4) < 16 := by omega
    rw [if_pos (by omega)]
    unfold catF
    rw [if_neg h1, if_pos (by omega)]
    unfold padF catF
    rw [if_pos (by omega), if_pos e]
end Go.Proofs.Ytmeijienfdefjaa
