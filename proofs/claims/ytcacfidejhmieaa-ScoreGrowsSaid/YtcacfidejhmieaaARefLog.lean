/- score: the document's own Log and Weight. -/
import Derived.Test.YtcacfidejhmieaaARef
import Derived.LoopTactic
namespace Go.Proofs.Ytcacfidejhmieaa
open Go.RowKit
set_option linter.unusedVariables false
set_option linter.unusedSimpArgs false

open Go.Shelf
attribute [local go_sem] Oper.semAt_some
theorem div_ge {n j k : Nat} (h0 : n ≠ 0) (h : 2 ^ k ≤ n / 2 ^ j) : k + j ≤ Nat.log2 n := by
  rw [Nat.le_log2 h0, Nat.pow_add]
  exact (Nat.le_div_iff_mul_le (Nat.pow_pos (by omega))).1 h
theorem div_lt {n j k : Nat} (h0 : n ≠ 0) (h : n / 2 ^ j < 2 ^ k) : Nat.log2 n < k + j := by
  rw [Nat.log2_lt h0, Nat.pow_add]
  exact (Nat.div_lt_iff_lt_mul (Nat.pow_pos (by omega))).1 h
theorem mul_lt {n i : Nat} (h0 : n ≠ 0) (h : n * 2 ^ i < 2 ^ 30) (hi : i ≤ 30) : Nat.log2 n + i < 30 := by
  have h1 := lg_lo h0
  have h2 : 2 ^ Nat.log2 n * 2 ^ i < 2 ^ 30 := Nat.lt_of_le_of_lt (Nat.mul_le_mul_right _ h1) h
  rw [← Nat.pow_add] at h2
  exact (Nat.pow_lt_pow_iff_right (by omega : 1 < 2)).1 h2
theorem mul_ge {n i : Nat} (h : 2 ^ 30 ≤ n * 2 ^ i) : 30 ≤ Nat.log2 n + i := by
  have h1 := lg_hi n
  have h2 : n * 2 ^ i < 2 ^ (Nat.log2 n + 1) * 2 ^ i := Nat.mul_lt_mul_of_pos_right h1 (Nat.pow_pos (by omega))
  rw [← Nat.pow_add] at h2
  have h3 : 2 ^ 30 < 2 ^ (Nat.log2 n + 1 + i) := by omega
  have := (Nat.pow_lt_pow_iff_right (by omega : 1 < 2)).1 h3
  omega
set_option maxRecDepth 100000 in
theorem refLog_zero (w : World) : Calls Try.prog 9 #[.int .u64 0] w fun e w' => e = .returned (.int .i64 (logN 0 : Nat)) ∧ w = w' := by
  go_enter Try.func9, Try.ntmps9
  go_wp2
  go_ret
  exact ⟨rfl, rfl⟩
set_option maxRecDepth 100000 in
set_option maxHeartbeats 8000000 in
theorem refLog_pos (n : Nat) (hn : n < 18446744073709551616) (h0 : n ≠ 0) (w : World) : Calls Try.prog 9 #[.int .u64 n] w fun e w' => e = .returned (.int .i64 (logN n : Nat)) ∧ w = w' := by
  have hee : Nat.log2 n < 64 := lg_lt (by simpa using hn) h0
  have HX := Lib.hid (x0_in h0)
  have HL := Lib.hid (show logN n = 256 * Nat.log2 n + behF 8 (x0 n) 0 by unfold logN; rw [if_neg h0])
  have HX0 := Lib.hid (show x0 n = if 30 < Nat.log2 n then n / 2 ^ (Nat.log2 n - 30) else n * 2 ^ (30 - Nat.log2 n) from rfl)
  have HG := Lib.hid (fun j k => div_ge (n := n) (j := j) (k := k) h0)
  have HLt := Lib.hid (fun j k => div_lt (n := n) (j := j) (k := k) h0)
  have HM := Lib.hid (fun i => mul_lt (n := n) (i := i) h0)
  have HMg := Lib.hid (fun i => mul_ge (n := n) (i := i))
  have hn0 : ((n : Int) == 0) = false := by simpa using h0
  generalize Nat.log2 n = lg at *
  have HN := Lib.hid hn
  clear hn
  go_enter Try.func9, Try.ntmps9
  go_wp2
  go_loop [4, 5] (fun x u => ∃ j : Nat, (j = 0 ∨ 30 + j ≤ lg) ∧ x = .int .u64 ((n / 2 ^ j : Nat) : Int) ∧ u = .int .i64 j) (fun x _ => (intOf x).toNat)
  case atStart => exact ⟨0, .inl rfl, by simp, rfl⟩
  case round =>
    obtain ⟨j, hj, rfl, rfl⟩ := hrel
    have HJ := Lib.hid hj
    have hj33 : j ≤ 33 := by omega
    have hle : n / 2 ^ j ≤ n := Nat.div_le_self _ _
    have HQ : Hid (n / 2 ^ j / 2 = n / 2 ^ (j + 1)) := Lib.hid (by rw [Nat.pow_succ, Nat.div_div_eq_div_mul])
    have HGj := Lib.hid (HG.out j 31)
    have HLj := Lib.hid (HLt.out j 31)
    clear hj
    obtain ⟨q, hq⟩ : ∃ q, q = n / 2 ^ j := ⟨_, rfl⟩
    have HQ2 := Lib.hid hq
    rw [← hq] at hle HQ HGj HLj ⊢
    clear hq
    obtain ⟨z, hz⟩ : ∃ z : Int, (q : Int) = z := ⟨_, rfl⟩
    rw [hz]
    have HZ := Lib.hid hz
    have hz0 : 0 ≤ z := by omega
    have hz1 : z ≤ 18446744073709551615 := by have := HN.out; omega
    clear hle hz
    by_cases hc : 2147483648 ≤ z
    · have hj2 := HGj.out (by have := HZ.out; omega)
      go_wp2
      go_round
      case rel => exact ⟨j + 1, .inr (by omega), by rw [← HQ.out, ← HZ.out]; simp, by go_num⟩
      case measure => simp [intOf]; omega
    · have hj2 := HLj.out (by have := HZ.out; omega)
      have hj3 : (30 < lg ∧ j = lg - 30) ∨ (lg ≤ 30 ∧ j = 0) := by have := HJ.out; omega
      have HJ3 := Lib.hid hj3
      clear hj3 hj2
      go_wp2_with fail
      have HXp := Lib.hid (x0_in h0)
      have HI30 := Lib.hid (show lg ≤ 30 → n * 2 ^ 0 = n by intro _; simp)
      go_loop [4, 5] (fun x u => ∃ z up : Int, x = .int .u64 z ∧ u = .int .i64 up ∧ 0 ≤ z ∧ z < 2147483648 ∧ -30 ≤ up ∧ up ≤ 33 ∧ ((30 < lg ∧ z = (x0 n : Nat) ∧ up = (lg : Int) - 30) ∨ (lg ≤ 30 ∧ ∃ i : Nat, i ≤ 30 - lg ∧ z = ((n * 2 ^ i : Nat) : Int) ∧ up = -(i : Int)))) (fun x _ => (1073741824 - intOf x).toNat)
      case atStart =>
        refine ⟨z, j, rfl, rfl, hz0, by omega, by omega, by omega, ?_⟩
        rcases HJ3.out with ⟨h1, h2⟩ | ⟨h1, h2⟩
        · exact .inl ⟨h1, by rw [HX0.out, if_pos h1, ← HZ.out, HQ2.out, h2], by omega⟩
        · exact .inr ⟨h1, 0, by omega, by rw [← HZ.out, HQ2.out, h2]; simp, by simp [h2]⟩
      case round =>
        obtain ⟨z, up, rfl, rfl, z0, z1, u1, u2, hz⟩ := hrel
        by_cases hc : z < 1073741824
        · have hz2 : lg ≤ 30 ∧ ∃ i : Nat, i + 1 ≤ 30 - lg ∧ 2 * z = ((n * 2 ^ (i + 1) : Nat) : Int) ∧ up = -(i : Int) ∧ 1 ≤ z := by
            rcases hz with ⟨_, h, _⟩ | ⟨h, i, h2, h3, h4⟩
            · have := HX.out.1; omega
            · have h5 := HM.out i (by omega) (by omega)
              have h6 : 0 < n * 2 ^ i := Nat.mul_pos (by omega) (Nat.pow_pos (by omega))
              exact ⟨h, i, by omega, by rw [h3, Nat.pow_succ, ← Nat.mul_assoc]; simp; omega, h4, by omega⟩
          have HZ2 := Lib.hid hz2
          have u3 : -29 ≤ up := by obtain ⟨_, i, h1, _, h2, _⟩ := hz2; omega
          have u4 : up ≤ 0 := by obtain ⟨_, i, h1, _, h2, _⟩ := hz2; omega
          have u5 : 1 ≤ z := by obtain ⟨_, i, h1, _, h2, h3⟩ := hz2; exact h3
          clear hz hz2
          go_wp2_with fail
          go_round
          case rel =>
            obtain ⟨h1, i, h2, h3, h4, h5⟩ := HZ2.out
            exact ⟨z * 2, up - 1, rfl, rfl, by omega, by omega, by omega, by omega, .inr ⟨h1, i + 1, by omega, by rw [← h3]; omega, by omega⟩⟩
          case measure => simp [intOf]; omega
        · have hz2 : z = (x0 n : Nat) ∧ up = (lg : Int) - 30 := by
            rcases hz with ⟨_, h, h2⟩ | ⟨h, i, h2, h3, h4⟩
            · exact ⟨h, h2⟩
            · have h5 := HMg.out i (by omega)
              have h6 : i = 30 - lg := by omega
              exact ⟨by rw [h3, HX0.out, if_neg (by omega), h6], by omega⟩
          obtain ⟨h1, rfl⟩ := hz2
          have HXX := Lib.hid h1
          clear hz h1
          by_cases hb : 30 < lg
          · obtain ⟨e, rfl⟩ : ∃ e, lg = 30 + e := ⟨lg - 30, by omega⟩
            have e1 : ((30 + e : Nat) : Int) - 30 = e := by omega
            rw [e1]
            have HX1 := Lib.hid (show x0 n = n / 2 ^ e by rw [HX0.out, if_pos hb, show 30 + e - 30 = e by omega])
            clear e1
            go_wp2_with fail
            go_loop [6, 7] (fun d i => ∃ M : Nat, M ≤ e ∧ d = .int .u64 ((2 ^ M : Nat) : Int) ∧ i = .int .i64 M) (fun _ i => e - (intOf i).toNat)
            case atStart => exact ⟨0, by omega, rfl, rfl⟩
            case round =>
              obtain ⟨M, hM, rfl, rfl⟩ := hrel
              have hp : (2 : Nat) ^ M ≤ 2 ^ 33 := Nat.pow_le_pow_right (by omega) (by omega)
              have hp0 : 0 < (2 : Nat) ^ M := Nat.pow_pos (by omega)
              obtain ⟨d, hd⟩ : ∃ d : Int, ((2 ^ M : Nat) : Int) = d := ⟨_, rfl⟩
              have d1 : 1 ≤ d := by omega
              have d2 : d ≤ 8589934592 := by omega
              rw [hd]
              have HD := Lib.hid hd
              clear hp hp0 hd
              by_cases hlt : M < e
              · go_wp2_with fail
                go_round
                case rel => exact ⟨M + 1, by omega, by rw [Nat.pow_succ, Int.natCast_mul, HD.out]; rfl, by go_num⟩
                case measure => simp [intOf]; omega
              · obtain rfl : M = e := by omega
                have wq : IntKind.u64.wrap ((n : Int) / d) = ((x0 n : Nat) : Int) := by
                  have := HN.out
                  have h1 : (n : Int) / d = ((n / 2 ^ M : Nat) : Int) := by rw [← HD.out]; simp
                  have h2 : n / 2 ^ M ≤ n := Nat.div_le_self _ _
                  rw [h1, HX1.out]; generalize n / 2 ^ M = y at *; exact IntWalk.u64_in _ (by omega)
                have WQ := Lib.hid wq
                clear wq
                go_wp2_with fail
                go_loop [4, 8, 9] (fun x o k => ∃ X K A : Nat, K ≤ 8 ∧ x = .int .u64 X ∧ o = .int .i64 A ∧ k = .int .i64 K ∧ A < 256 ∧ (InX X ∧ A < 2 ^ K ∧ behF (8 - K) X A = behF 8 (x0 n) 0)) (fun _ _ k => 8 - (intOf k).toNat)
                case atStart => exact ⟨x0 n, 0, 0, by omega, by first | rfl | (rw [WQ.out]), rfl, rfl, by omega, HX.out, by simp, rfl⟩
                case round =>
                  obtain ⟨X, K, A, hK, rfl, rfl, rfl, hA, hX, hA2, hB⟩ := hrel
                  have HB := Lib.hid hB
                  have HA2 := Lib.hid hA2
                  have HXi := Lib.hid hX
                  clear hB hA2
                  by_cases hlt : K < 8
                  · have q1 := sq_lo hX
                    have q2 := sq_hi hX
                    have q3 := sq_le hX
                    have HP : Hid (2 * A < 2 ^ (K + 1) ∧ 2 * A + 1 < 2 ^ (K + 1)) := Lib.hid (by have := HA2.out; rw [Nat.pow_succ]; omega)
                    have HP8 : Hid (2 ^ (K + 1) ≤ 2 ^ 8) := Lib.hid (Nat.pow_le_pow_right (by omega) (by omega))
                    have HS := Lib.hid (stp_in hX)
                    have HB2 : Hid (behF (8 - (K + 1)) (stp X).1 (2 * A + (stp X).2.toNat) = behF 8 (x0 n) 0) := Lib.hid (by rw [← HB.out, show 8 - K = (8 - (K + 1)) + 1 by omega, behF])
                    clear hX
                    obtain ⟨z, hz⟩ : ∃ z : Int, ((X * X / 1073741824 : Nat) : Int) = z := ⟨_, rfl⟩
                    have w1 : IntKind.u64.wrap ((X : Int) * (X : Int)) = ((X * X : Nat) : Int) := by rw [← Int.natCast_mul]; exact IntWalk.u64_in _ (by omega)
                    have w2 : ((X * X : Nat) : Int) / 1073741824 = z := by rw [← hz]; simp
                    have y1 : 1073741824 ≤ z := by omega
                    have y2 : z < 4294967296 := by omega
                    by_cases hc : X * X / 1073741824 < 2147483648
                    · rw [stp_yes hc] at HS HB2
                      have y3 : z < 2147483648 := by omega
                      have HZ := Lib.hid hz
                      generalize X * X = YY at *
                      clear q1 q2 hc hz
                      go_wp2_with fail
                      go_round
                      case rel => exact ⟨YY / 1073741824, K + 1, 2 * A, by omega, by rw [HZ.out], by simp; omega, by go_num, by have := HP.out; have := HP8.out; omega, HS.out, HP.out.1, HB2.out⟩
                      case measure => simp [intOf]; omega
                    · rw [stp_no hc] at HS HB2
                      have y3 : 2147483648 ≤ z := by omega
                      have HZ := Lib.hid (show ((X * X / 1073741824 / 2 : Nat) : Int) = z / 2 by omega)
                      generalize X * X = YY at *
                      clear q1 q2 hc hz
                      go_wp2_with fail
                      go_round
                      case rel => exact ⟨YY / 1073741824 / 2, K + 1, 2 * A + 1, by omega, by rw [HZ.out], by simp; omega, by go_num, by have := HP.out; have := HP8.out; omega, HS.out, HP.out.2, HB2.out⟩
                      case measure => simp [intOf]; omega
                  · have HE := Lib.hid (show logN n = 256 * (30 + M) + A by rw [HL.out, ← HB.out, show 8 - K = 0 by omega]; rfl)
                    go_wp2_with fail
                    go_ret
                    exact ⟨ret_i (by rw [HE.out]; simp; omega), rfl⟩
          · go_wp2_with fail
            go_loop [4, 8, 9] (fun x o k => ∃ X K A : Nat, K ≤ 8 ∧ x = .int .u64 X ∧ o = .int .i64 A ∧ k = .int .i64 K ∧ A < 256 ∧ (InX X ∧ A < 2 ^ K ∧ behF (8 - K) X A = behF 8 (x0 n) 0)) (fun _ _ k => 8 - (intOf k).toNat)
            case atStart => exact ⟨x0 n, 0, 0, by omega, by first | rfl | (rw [HXX.out]), rfl, rfl, by omega, HX.out, by simp, rfl⟩
            case round =>
              obtain ⟨X, K, A, hK, rfl, rfl, rfl, hA, hX, hA2, hB⟩ := hrel
              have HB := Lib.hid hB
              have HA2 := Lib.hid hA2
              have HXi := Lib.hid hX
              clear hB hA2
              by_cases hlt : K < 8
              · have q1 := sq_lo hX
                have q2 := sq_hi hX
                have q3 := sq_le hX
                have HP : Hid (2 * A < 2 ^ (K + 1) ∧ 2 * A + 1 < 2 ^ (K + 1)) := Lib.hid (by have := HA2.out; rw [Nat.pow_succ]; omega)
                have HP8 : Hid (2 ^ (K + 1) ≤ 2 ^ 8) := Lib.hid (Nat.pow_le_pow_right (by omega) (by omega))
                have HS := Lib.hid (stp_in hX)
                have HB2 : Hid (behF (8 - (K + 1)) (stp X).1 (2 * A + (stp X).2.toNat) = behF 8 (x0 n) 0) := Lib.hid (by rw [← HB.out, show 8 - K = (8 - (K + 1)) + 1 by omega, behF])
                clear hX
                obtain ⟨z, hz⟩ : ∃ z : Int, ((X * X / 1073741824 : Nat) : Int) = z := ⟨_, rfl⟩
                have w1 : IntKind.u64.wrap ((X : Int) * (X : Int)) = ((X * X : Nat) : Int) := by rw [← Int.natCast_mul]; exact IntWalk.u64_in _ (by omega)
                have w2 : ((X * X : Nat) : Int) / 1073741824 = z := by rw [← hz]; simp
                have y1 : 1073741824 ≤ z := by omega
                have y2 : z < 4294967296 := by omega
                by_cases hc : X * X / 1073741824 < 2147483648
                · rw [stp_yes hc] at HS HB2
                  have y3 : z < 2147483648 := by omega
                  have HZ := Lib.hid hz
                  generalize X * X = YY at *
                  clear q1 q2 hc hz
                  go_wp2_with fail
                  go_round
                  case rel => exact ⟨YY / 1073741824, K + 1, 2 * A, by omega, by rw [HZ.out], by simp; omega, by go_num, by have := HP.out; have := HP8.out; omega, HS.out, HP.out.1, HB2.out⟩
                  case measure => simp [intOf]; omega
                · rw [stp_no hc] at HS HB2
                  have y3 : 2147483648 ≤ z := by omega
                  have HZ := Lib.hid (show ((X * X / 1073741824 / 2 : Nat) : Int) = z / 2 by omega)
                  generalize X * X = YY at *
                  clear q1 q2 hc hz
                  go_wp2_with fail
                  go_round
                  case rel => exact ⟨YY / 1073741824 / 2, K + 1, 2 * A + 1, by omega, by rw [HZ.out], by simp; omega, by go_num, by have := HP.out; have := HP8.out; omega, HS.out, HP.out.2, HB2.out⟩
                  case measure => simp [intOf]; omega
              · have HE := Lib.hid (show logN n = 256 * lg + A by rw [HL.out, ← HB.out, show 8 - K = 0 by omega]; rfl)
                go_wp2_with fail
                go_ret
                exact ⟨ret_i (by rw [HE.out]; simp), rfl⟩
theorem refLog_any (n : Nat) (hn : n < 18446744073709551616) (w : World) : Calls Try.prog 9 #[.int .u64 n] w fun e w' => e = .returned (.int .i64 (logN n : Nat)) ∧ w = w' := by
  by_cases h0 : n = 0
  · subst h0; exact refLog_zero w
  · exact refLog_pos n hn h0 w
end Go.Proofs.Ytcacfidejhmieaa
