/- bits.Div64 by 10000000; Times. -/
import Derived.Test.YtoeddhkbifeamaaDoorNArith
import Derived.BigQuiet
import Derived.Deep.QuietTactic
namespace Go.Proofs.YtoeddhkbifeamaaDoor
open Go.RowKit
set_option linter.unusedVariables false

theorem lead_any (w : World) : Calls Tryd.prog 47 #[.int .u64 10000000] w fun e w' => e = .returned (.int .i64 40) ∧ w = w' := by
  refine (Tryd.bits_LeadingZeros64 10000000 w (by omega) (by omega)).mono ?_
  rintro e w' ⟨rfl, rfl⟩
  exact ⟨by rw [show (64 - (Lib.bitLen (10000000 : Int).toNat : Int)) = 40 from by decide +kernel], rfl⟩

theorem div_low (lo : Int) (w : World) (h0 : 0 ≤ lo) (h : lo < 18446744073709551616) :
    Calls Tryd.prog 32 #[.int .u64 0, .int .u64 lo, .int .u64 10000000] w fun e w' => e = .returned (.tuple #[.int .u64 (lo / 10000000), .int .u64 (lo % 10000000)]) ∧ ∃ n, w' = w.drewN n := by
  go_enter Tryd.func32, Tryd.ntmps32
  go_wp2
  go_quiet (fail)
  go_wp2
  go_ret2
  exact ⟨rfl, _, rfl⟩
theorem wraps_u64 (n : Int) (h₀ : 0 ≤ n) (h₁ : n < 2 ^ 64) : IntKind.u64.wrap n = n := by rw [IntKind.wrap_u64]; omega
theorem or_parts (hi lo : Int) (h2 : 0 ≤ lo) (h : lo < 18446744073709551616) (h0 : 0 < hi) (h1 : hi < 10000000) : bits .or .u64 (hi * 1099511627776) (lo / 16777216) = hi * 1099511627776 + lo / 16777216 :=
  bits_join .u64 64 (by decide) wraps_u64 40 _ _ (by omega) (by omega) (by omega) (by omega) (by omega) (by omega)
theorem and_low (x : Int) (h2 : 0 ≤ x) (h : x < 18446744073709551616) : bits .and .u64 x 4294967295 = x % 4294967296 :=
  bits_mask .u64 64 (by decide) wraps_u64 32 (by decide) x h2 (by omega)
/-- What stands behind the first half. -/
theorem un21_eq (U V Q R : Int) (hU0 : 0 ≤ U) (hV0 : 0 ≤ V) (hV : V < 4294967296) (hQ : Q * 2560000000 + R = U) (hR0 : 0 ≤ R) (hR : R < 2560000000) :
    IntKind.u64.wrap (IntKind.u64.wrap (IntKind.u64.wrap (U * 4294967296) + V) - IntKind.u64.wrap (Q * 10995116277760000000)) = R * 4294967296 + V := by
  simp only [IntKind.wrap_u64]
  omega
theorem div_all (hi lo U V Q1 R1 Q0 R0 : Int) (h2 : 0 ≤ lo) (h : lo < 18446744073709551616) (h0 : 0 < hi) (h1 : hi < 10000000)
    (hU : U = hi * 1099511627776 + lo / 16777216) (hV : V = lo * 1099511627776 % 18446744073709551616)
    (e1 : Q1 * 2560000000 + R1 = U) (a1 : 0 ≤ R1) (b1 : R1 < 2560000000) (e2 : Q0 * 2560000000 + R0 = R1 * 4294967296 + V / 4294967296) (a2 : 0 ≤ R0) (b2 : R0 < 2560000000) :
    Q1 * 4294967296 + Q0 = (hi * 18446744073709551616 + lo) / 10000000 ∧ (R0 * 4294967296 + V % 4294967296) / 1099511627776 = (hi * 18446744073709551616 + lo) % 10000000 := by
  subst hU hV
  omega
set_option maxRecDepth 100000 in
theorem div_high (hi lo : Int) (w : World) (h2 : 0 ≤ lo) (h : lo < 18446744073709551616) (h0 : 0 < hi) (h1 : hi < 10000000) :
    Calls Tryd.prog 32 #[.int .u64 hi, .int .u64 lo, .int .u64 10000000] w fun e w' => e = .returned (.tuple #[.int .u64 ((hi * 18446744073709551616 + lo) / 10000000), .int .u64 ((hi * 18446744073709551616 + lo) % 10000000)]) ∧ w = w' := by
  have h3 : ¬ 10000000 ≤ hi := by omega
  have h4 : (hi == 0) = false := by simp; omega
  have b0 : bits .and .u64 10995116277760000000 4294967295 = 0 := by rw [and_low _ (by omega) (by omega)]; omega
  obtain ⟨U, hU⟩ : ∃ U, U = hi * 1099511627776 + lo / 16777216 := ⟨_, rfl⟩
  have bU := or_parts hi lo h2 h h0 h1
  rw [← hU] at bU
  obtain ⟨V, hV⟩ : ∃ V, V = lo * 1099511627776 % 18446744073709551616 := ⟨_, rfl⟩
  have bV : IntKind.u64.wrap (lo * 1099511627776) = V := by rw [IntKind.wrap_u64, hV]
  have u1 : 0 ≤ U := by omega
  have u2 : U < 10995116277760000000 := by omega
  have v1 : 0 ≤ V := by omega
  have v2 : V < 18446744073709551616 := by omega
  have bV2 := and_low V v1 v2
  obtain ⟨V1, hV1⟩ : ∃ x, x = V / 4294967296 := ⟨_, rfl⟩
  obtain ⟨V0, hV0⟩ : ∃ x, x = V % 4294967296 := ⟨_, rfl⟩
  rw [← hV0] at bV2
  have v11 : 0 ≤ V1 := by omega
  have v12 : V1 < 4294967296 := by omega
  have v01 : 0 ≤ V0 := by omega
  have v02 : V0 < 4294967296 := by omega
  obtain ⟨Q, hQ⟩ : ∃ x, x = U / 2560000000 := ⟨_, rfl⟩
  obtain ⟨R, hR⟩ : ∃ x, x = U - Q * 2560000000 := ⟨_, rfl⟩
  have q1 : 0 ≤ Q := by omega
  have q2 : Q < 4294967296 := by omega
  have r1 : 0 ≤ R := by omega
  have r2 : R < 2560000000 := by omega
  have q3 : ¬ 4294967296 ≤ Q := by omega
  obtain ⟨W, hW⟩ : ∃ x, x = R * 4294967296 + V1 := ⟨_, rfl⟩
  obtain ⟨Q0, hQ0⟩ : ∃ x, x = W / 2560000000 := ⟨_, rfl⟩
  obtain ⟨R0, hR0⟩ : ∃ x, x = W - Q0 * 2560000000 := ⟨_, rfl⟩
  have w1 : 0 ≤ W := by omega
  have w2 : W < 10995116277760000000 := by omega
  have q01 : 0 ≤ Q0 := by omega
  have q02 : Q0 < 4294967296 := by omega
  have r01 : 0 ≤ R0 := by omega
  have r02 : R0 < 2560000000 := by omega
  have q03 : ¬ 4294967296 ≤ Q0 := by omega
  have gW : IntKind.u64.wrap (IntKind.u64.wrap (IntKind.u64.wrap (U * 4294967296) + V1) - IntKind.u64.wrap (Q * 10995116277760000000)) = W := by
    rw [un21_eq U V1 Q R u1 v11 v12 (by omega) r1 r2, hW]
  obtain ⟨Z, hZ⟩ : ∃ x, x = R0 * 4294967296 + V0 := ⟨_, rfl⟩
  have gZ : IntKind.u64.wrap (IntKind.u64.wrap (IntKind.u64.wrap (W * 4294967296) + V0) - IntKind.u64.wrap (Q0 * 10995116277760000000)) = Z := by
    rw [un21_eq W V0 Q0 R0 w1 v01 v02 (by omega) r01 r02, hZ]
  have z1 : 0 ≤ Z := by omega
  have gQ0 : W / 2560000000 = Q0 := hQ0.symm
  have gR0 : W - Q0 * 2560000000 = R0 := hR0.symm
  have KW := Lib.hid hW
  have KQ0 := Lib.hid hQ0
  have KR0 := Lib.hid hR0
  have KZ := Lib.hid hZ
  have KU := Lib.hid hU
  have KV := Lib.hid hV
  have KQ := Lib.hid hQ
  have KR := Lib.hid hR
  have K1 := Lib.hid hV1
  have K0 := Lib.hid hV0
  have gQ : IntKind.u64.wrap (U.tdiv 2560000000) = Q := by rw [Int.tdiv_eq_ediv_of_nonneg u1, ← hQ]; exact wraps_u64 _ q1 (by omega)
  have gQ2 : U / 2560000000 = Q := hQ.symm
  have gR : U - Q * 2560000000 = R := hR.symm
  have gV1 : V / 4294967296 = V1 := hV1.symm
  clear hU hV hQ hR hV1 hV0 hW hQ0 hR0 hZ
  go_enter Tryd.func32, Tryd.ntmps32
  go_wp2_with (go_at_call 47; refine (lead_any _).mono ?_; rintro e w' ⟨rfl, rfl⟩)
  refine wp_loop_rounds 1 ?_
  rw [rounds_succ]
  go_wp2
  refine wp_loop_rounds 1 ?_
  rw [rounds_succ]
  go_wp2
  go_ret2
  have hU := KU.out
  have hV := KV.out
  have hQ := KQ.out
  have hR := KR.out
  have hV1 := K1.out
  have hV0 := K0.out
  have hW := KW.out
  have hQ0 := KQ0.out
  have hR0 := KR0.out
  have hZ := KZ.out
  obtain ⟨f1, f2⟩ := div_all hi lo U V Q R Q0 R0 h2 h h0 h1 hU hV (by omega) r1 r2 (by omega) r01 r02
  rw [← f1, ← f2, ← hV0, ← hZ]
  exact ⟨rfl, rfl⟩
end Go.Proofs.YtoeddhkbifeamaaDoor
