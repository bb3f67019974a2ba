/- 128 bits by ten, in halves of 32 bits: plain words. -/
import Derived.Test.YtdpgoddhchoefaaWPlain
import Derived.Laws.BitsLemmas
import Derived.Lib.EndianBits
namespace Go.Proofs.Ytdpgoddhchoefaa
open Go.RowKit
set_option linter.unusedVariables false

theorem u64_in {n : Int} (h0 : 0 ≤ n) (h1 : n < 18446744073709551616) : IntKind.u64.wrap n = n := by rw [IntKind.wrap_u64]; omega
theorem or_top (h l : Int) (h0 : 0 ≤ h) (h9 : h ≤ 9) (l0 : 0 ≤ l) (l1 : l < 18446744073709551616) : bits BinOp.or IntKind.u64 (h * 1152921504606846976) (l / 16) = h * 1152921504606846976 + l / 16 := by
  obtain ⟨a, rfl⟩ := Int.eq_ofNat_of_zero_le h0
  obtain ⟨b, hb⟩ := Int.eq_ofNat_of_zero_le (show 0 ≤ l / 16 by omega)
  rw [hb]
  have hb2 : b < 2 ^ 60 := by omega
  have k := (bits_nat .u64 64 (by decide) Go.wraps_u64 (a * 1152921504606846976) b (by omega) (by omega)).2
  have e : a * 1152921504606846976 ||| b = a * 1152921504606846976 + b := by
    have := Nat.two_pow_add_eq_or_of_lt hb2 a
    rw [Nat.mul_comm a 1152921504606846976]
    exact this.symm
  rw [e] at k
  simpa using k
theorem and_low (x : Int) (h0 : 0 ≤ x) (h1 : x < 18446744073709551616) : bits BinOp.and IntKind.u64 x 4294967295 = x % 4294967296 := by
  have h := bits_mask .u64 64 (by decide) Go.wraps_u64 32 (by decide) x h0 (by omega)
  have e : ((2 : Int) ^ 32 - 1) = 4294967295 := by decide
  have e2 : ((2 : Int) ^ 32) = 4294967296 := by decide
  rw [e, e2] at h
  exact h
/-- What the parts are. -/
structure Ten (h l A Q1 R B U1 U0 N2 Q0 R0 N3 : Int) : Prop where
  a : A = h * 1152921504606846976 + l / 16
  q1 : Q1 = A / 2684354560
  r : R = A % 2684354560
  b : B = l % 16 * 1152921504606846976
  u1 : U1 = B / 4294967296
  u0 : U0 = B % 4294967296
  n2 : N2 = R * 4294967296 + U1
  q0 : Q0 = N2 / 2684354560
  r0 : R0 = N2 % 2684354560
  n3 : N3 = R0 * 4294967296 + U0
theorem ten_all (h l : Int) (h0 : 0 ≤ h) (h9 : h ≤ 9) (l0 : 0 ≤ l) (l1 : l < 18446744073709551616) :
    ∃ A Q1 R B U1 U0 N2 Q0 R0 N3, Ten h l A Q1 R B U1 U0 N2 Q0 R0 N3 ∧
      (0 ≤ A ∧ A < 11529215046068469760 ∧ 0 ≤ Q1 ∧ Q1 < 4294967296 ∧ 0 ≤ R ∧ R < 2684354560 ∧ 0 ≤ B ∧ 0 ≤ U1 ∧ U1 < 4294967296 ∧ 0 ≤ U0 ∧ U0 < 4294967296 ∧ 0 ≤ N2 ∧ N2 < 11529215046068469760 ∧ 0 ≤ Q0 ∧ Q0 < 4294967296 ∧ 0 ≤ R0 ∧ R0 < 2684354560 ∧ 0 ≤ N3) ∧
      bits BinOp.or IntKind.u64 (h * 1152921504606846976) (l / 16) = A ∧
      IntKind.u64.wrap (l * 1152921504606846976) = B ∧ bits BinOp.and IntKind.u64 B 4294967295 = U0 ∧ bits BinOp.and IntKind.u64 11529215046068469760 4294967295 = 0 ∧
      IntKind.u64.wrap (A.tdiv 2684354560) = Q1 ∧ B / 4294967296 = U1 ∧
      IntKind.u64.wrap (A - Q1 * 2684354560) = R ∧ IntKind.u64.wrap (IntKind.u64.wrap (IntKind.u64.wrap (A * 4294967296) + U1) - IntKind.u64.wrap (Q1 * 11529215046068469760)) = N2 ∧
      IntKind.u64.wrap (N2.tdiv 2684354560) = Q0 ∧ IntKind.u64.wrap (N2 - Q0 * 2684354560) = R0 ∧
      IntKind.u64.wrap (IntKind.u64.wrap (IntKind.u64.wrap (N2 * 4294967296) + U0) - IntKind.u64.wrap (Q0 * 11529215046068469760)) = N3 ∧
      Q1 * 4294967296 + Q0 = (h * 18446744073709551616 + l) / 10 ∧ N3 / 1152921504606846976 = (h * 18446744073709551616 + l) % 10 := by
  refine ⟨_, _, _, _, _, _, _, _, _, _, ⟨rfl, rfl, rfl, rfl, rfl, rfl, rfl, rfl, rfl, rfl⟩, ?_⟩
  refine ⟨by omega, or_top h l h0 h9 l0 l1, by rw [IntKind.wrap_u64]; omega, and_low _ (by omega) (by omega), by decide, ?_, rfl, ?_, ?_, ?_, ?_, ?_, ?_, ?_⟩
  · rw [Int.tdiv_eq_ediv_of_nonneg (by omega)]; exact u64_in (by omega) (by omega)
  · rw [IntKind.wrap_u64]; omega
  · simp only [IntKind.wrap_u64]; omega
  · rw [Int.tdiv_eq_ediv_of_nonneg (by omega)]; exact u64_in (by omega) (by omega)
  · rw [IntKind.wrap_u64]; omega
  · simp only [IntKind.wrap_u64]; omega
  · omega
  · omega
end Go.Proofs.Ytdpgoddhchoefaa
