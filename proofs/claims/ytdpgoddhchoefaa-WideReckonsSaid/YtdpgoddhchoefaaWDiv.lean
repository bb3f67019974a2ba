/- math/bits.Div64 by ten. -/
import Derived.Test.YtdpgoddhchoefaaWMul
import Derived.Test.YtdpgoddhchoefaaWDivM
import Derived.BigQuiet
import Derived.Deep.QuietTactic
import Derived.WalkLawsBesides
import Derived.RegionTactic
import Derived.Outline
namespace Go.Proofs.Ytdpgoddhchoefaa
open Go.RowKit
set_option linter.unusedVariables false

theorem ret2_u {a b c d : Int} (h1 : a = c) (h2 : b = d) : Ending.returned (.tuple #[.int .u64 a, .int .u64 b]) = .returned (.tuple #[.int .u64 c, .int .u64 d]) := by rw [h1, h2]
theorem lead_ten (w : World) : Calls Try.prog 85 #[.int .u64 10] w fun e w' => e = .returned (.int .i64 60) ∧ w = w' := by
  refine (Try.bits_LeadingZeros64 10 w (by omega) (by omega)).mono ?_
  rintro e w' ⟨rfl, rfl⟩
  exact ⟨by have : Lib.bitLen (10 : Int).toNat = 4 := by decide
            rw [this]; rfl, rfl⟩
set_option maxRecDepth 100000 in
theorem div_small (l : Int) (l0 : 0 ≤ l) (l1 : l < 18446744073709551616) (w : World) :
    Calls Try.prog 83 #[.int .u64 0, .int .u64 l, .int .u64 10] w fun e w' => e = .returned (.tuple #[.int .u64 (l / 10), .int .u64 (l % 10)]) ∧ ∃ n, w' = w.drewN n := by
  have e1 : IntKind.u64.wrap (l.tdiv 10) = l / 10 := by rw [Int.tdiv_eq_ediv_of_nonneg l0]; exact u64_in (by omega) (by omega)
  clear l1
  go_enter Try.func83, Try.ntmps83
  go_wp2
  go_quiet (fail)
  go_wp2
  go_ret2
  exact ⟨rfl, _, rfl⟩
set_option maxRecDepth 100000 in
set_option maxHeartbeats 1000000 in
theorem div_big (h l : Int) (h0 : 0 < h) (h9 : h ≤ 9) (l0 : 0 ≤ l) (l1 : l < 18446744073709551616) (w : World) :
    Calls Try.prog 83 #[.int .u64 h, .int .u64 l, .int .u64 10] w fun e w' => e = .returned (.tuple #[.int .u64 ((h * 18446744073709551616 + l) / 10), .int .u64 ((h * 18446744073709551616 + l) % 10)]) ∧ w = w' := by
  have q0 : (h == 0) = false := by simp; omega
  obtain ⟨A, Q1, R, B, U1, U0, N2, Q0, R0, N3, hT, ⟨b1, b2, b3, b4, b5, b6, b7, b8, b9, b10, b11, b12, b13, b14, b15, b16, b17, b18⟩, e1, e2, e3, e4, e5, e6, e7, e8, e9, e10, e11, e12, e13⟩ := ten_all h l (by omega) h9 l0 l1
  have X := Lib.hid (And.intro e12 e13)
  have f1 : A / 2684354560 = Q1 := hT.q1.symm
  have f2 : N2 / 2684354560 = Q0 := hT.q0.symm
  have g1 : decide (4294967296 ≤ Q1) = false := by simpa using b4
  have g2 : decide (4294967296 ≤ Q0) = false := by simpa using b15
  clear hT e12 e13 l1
  go_enter Try.func83, Try.ntmps83
  go_wp2_with (go_at_call 85; refine (lead_ten _).mono ?_; rintro e w' ⟨rfl, rfl⟩)
  refine wp_loop_rounds 1 ?_
  rw [rounds_succ]
  go_wp2
  refine wp_loop_rounds 1 ?_
  rw [rounds_succ]
  go_wp2
  go_ret2
  exact ⟨ret2_u X.out.1 X.out.2, rfl⟩
/-- Either way: a number of 128 bits below ten times 2^64, by ten. -/
theorem div_ten (h l : Int) (h0 : 0 ≤ h) (h9 : h ≤ 9) (l0 : 0 ≤ l) (l1 : l < 18446744073709551616) (w : World) :
    Calls Try.prog 83 #[.int .u64 h, .int .u64 l, .int .u64 10] w fun e w' => e = .returned (.tuple #[.int .u64 ((h * 18446744073709551616 + l) / 10), .int .u64 ((h * 18446744073709551616 + l) % 10)]) ∧ Below w.heap.size w w' := by
  by_cases hz : h = 0
  · subst hz
    refine (div_small l l0 l1 w).mono ?_
    rintro e w' ⟨rfl, n, rfl⟩
    exact ⟨ret2_u (by omega) (by omega), (Below.refl _ _).trans ⟨rfl, rfl, rfl, Nat.le_refl _, fun _ _ => rfl⟩⟩
  · refine (div_big h l (by omega) h9 l0 l1 w).mono ?_
    rintro e w' ⟨rfl, rfl⟩
    exact ⟨rfl, Below.refl _ _⟩
end Go.Proofs.Ytdpgoddhchoefaa
