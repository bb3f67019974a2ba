/- score: the document's Weight; the laws ScoreLogs, ScoreGrows walked. -/
import Derived.Test.YtcacfidejhmieaaARefLog
namespace Go.Proofs.Ytcacfidejhmieaa
open Go.RowKit
set_option linter.unusedVariables false
set_option linter.unusedSimpArgs false

open Go.Shelf
attribute [local go_sem] Oper.semAt_some
theorem refLogI {n : Int} (h0 : 0 ≤ n) (h1 : n < 18446744073709551616) (w : World) : Calls Try.prog 9 #[.int .u64 n] w fun e w' => e = .returned (.int .i64 (logN n.toNat : Nat)) ∧ w = w' := by
  have h := refLog_any n.toNat (by omega) w
  rwa [Int.toNat_of_nonneg h0] at h
set_option maxHeartbeats 4000000 in
theorem refWeight_no {T df : Int} (hk : knownB T df = false) (L : Int) (w : World) : Calls Try.prog 13 #[.agg #[.int .i64 T, .int .i64 L], .int .i64 df] w fun e w' => e = .returned (.int .i64 (weightV T df)) ∧ Below w.heap.size w w' := by
  have HV := Lib.hid (show weightV T df = 0 by unfold weightV; rw [if_neg (by rw [hk]; simp)])
  have HC := Lib.hid (refKnown_is hk L)
  clear hk
  go_enter Try.func13, Try.ntmps13
  go_wp2_with (go_at_call 11; (with_reducible refine (HC.out _).mono ?_); rintro e w' ⟨rfl, hb1⟩; have HB1 := Lib.hid hb1; clear hb1)
  go_ret
  exact ⟨ret_i HV.out.symm, ((Below.refl _ _).alloc (Nat.le_refl _) _).trans (HB1.out.mono (by simp))⟩
set_option maxHeartbeats 4000000 in
theorem refWeight_yes {T df : Int} (hk : knownB T df = true) (L : Int) (w : World) : Calls Try.prog 13 #[.agg #[.int .i64 T, .int .i64 L], .int .i64 df] w fun e w' => e = .returned (.int .i64 (weightV T df)) ∧ Below w.heap.size w w' := by
  have HV := Lib.hid (show weightV T df = 1 + (logN ((T + df) / df).toNat : Nat) by unfold weightV; rw [if_pos hk])
  have HC := Lib.hid (refKnown_is hk L)
  obtain ⟨a1, a2, a3, a4⟩ := known_yes hk
  have q0 : 0 ≤ (T + df) / df := Int.ediv_nonneg (by omega) (by omega)
  have q1 : (T + df) / df ≤ 8589934592 := Int.le_trans (Int.ediv_le_self _ (by omega)) (by omega)
  have hl := refLogI q0 (by omega)
  have hm1 := log_lt (n := ((T + df) / df).toNat) (k := 34) (by omega) (by omega)
  generalize logN ((T + df) / df).toNat = m at *
  have HL := Lib.hid hl
  clear hk hl
  go_enter Try.func13, Try.ntmps13
  go_wp2_with (go_at_call 11; (with_reducible refine (HC.out _).mono ?_); rintro e w1 ⟨rfl, hb1⟩; have hc := bcell hb1 (b := w.heap.size) (o := 0) (v := .int .i64 T) (by go_simp) (by simp); have HB1 := Lib.hid hb1; clear hb1)
  go_wp2_with (go_at_call 9; (with_reducible refine (HL.out _).mono ?_); rintro e w2 ⟨rfl, rfl⟩)
  go_ret
  exact ⟨ret_i HV.out.symm, (((Below.refl _ _).alloc (Nat.le_refl _) _).trans (HB1.out.mono (by simp)))⟩
theorem refWeight_any (T L df : Int) (w : World) : Calls Try.prog 13 #[.agg #[.int .i64 T, .int .i64 L], .int .i64 df] w fun e w' => e = .returned (.int .i64 (weightV T df)) ∧ Below w.heap.size w w' := by
  cases hk : knownB T df with
  | true => exact refWeight_yes hk L w
  | false => exact refWeight_no hk L w
theorem scoreLogs_walk (n : Nat) (hn : n < 18446744073709551616) (w : World) : Calls Try.prog 3 #[.int .u64 n] w fun e w' => e = .returned (.bool true) ∧ Below w.heap.size w w' := by
  have H1 := Lib.hid (log_any n hn)
  have H2 := Lib.hid (refLog_any n hn)
  clear hn
  go_enter Try.func3, Try.ntmps3
  go_wp2_with (first
    | (go_at_call 8; (with_reducible refine (H1.out _).mono ?_); rintro e w1 ⟨rfl, l1⟩; have L1 := Lib.hid l1; clear l1)
    | (go_at_call 9; (with_reducible refine (H2.out _).mono ?_); rintro e w2 ⟨rfl, rfl⟩)
    | (go_at_call 10; (with_reducible refine (awake_any _).mono ?_); rintro e w3 ⟨rfl, l1⟩; have L3 := Lib.hid l1; clear l1))
  go_ret
  exact ⟨rfl, L1.out.trans (L3.out.mono L1.out.size)⟩
/-- What of ScoreGrows' tests is known. -/
theorem scoreGrows_walk (n m : Nat) (hn : n < 18446744073709551616) (hm : m < 18446744073709551616) (w : World) : Calls Try.prog 5 #[.int .u64 n, .int .u64 m] w fun e w' => e = .returned (.bool true) ∧ Below w.heap.size w w' := by
  have H1 := Lib.hid (log_any n hn)
  have H2 := Lib.hid (log_any m hm)
  have HA : Hid (n ≤ m → logN n ≤ logN m) := Lib.hid log_mono
  have HB : Hid (m ≤ n → logN m ≤ logN n) := Lib.hid log_mono
  have hc := log_lt (n := n) (k := 64) (by omega) (by omega)
  have hd := log_lt (n := m) (k := 64) (by omega) (by omega)
  have HT : Hid (n ≠ 0 → logN (2 * n) = logN n + 256) := Lib.hid log_twice
  have HN := Lib.hid (And.intro hn hm)
  obtain ⟨N, hN⟩ : ∃ N : Int, (n : Int) = N := ⟨_, rfl⟩
  obtain ⟨M, hM⟩ : ∃ M : Int, (m : Int) = M := ⟨_, rfl⟩
  obtain ⟨a, ha⟩ : ∃ a : Int, ((logN n : Nat) : Int) = a := ⟨_, rfl⟩
  obtain ⟨b, hb⟩ : ∃ b : Int, ((logN m : Nat) : Int) = b := ⟨_, rfl⟩
  rw [hN, ha] at H1
  rw [hM, hb] at H2
  rw [hN, hM]
  have a0 : 0 ≤ a := by omega
  have a1 : a < 16384 := by omega
  have b0 : 0 ≤ b := by omega
  have b1 : b < 16384 := by omega
  have HO : Hid ((N ≤ M → a ≤ b) ∧ (M ≤ N → b ≤ a)) := Lib.hid ⟨fun h => by have := HA.out (by omega); omega, fun h => by have := HB.out (by omega); omega⟩
  have n0 : 0 ≤ N := by omega
  have m0 : 0 ≤ M := by omega
  have n1 : N ≤ 18446744073709551615 := by omega
  have HL2 : Hid (1 ≤ N → N < 9223372036854775808 → ∀ w, Calls Try.prog 8 #[.int .u64 (2 * N)] w fun e w' => e = .returned (.int .i64 (a + 256)) ∧ Below w.heap.size w w') := Lib.hid (by
    intro h1 h2 w
    have h := log_any (2 * n) (by omega) w
    rw [HT.out (by omega)] at h
    have e1 : (((2 * n : Nat)) : Int) = 2 * N := by omega
    have e2 : ((logN n + 256 : Nat) : Int) = a + 256 := by omega
    rwa [e1, e2] at h)
  clear hn hm hN hM ha hb hc hd
  go_enter Try.func5, Try.ntmps5
  by_cases hle : N ≤ M
  · have hab := HO.out.1 hle
    have kd : decide (b < a) = false := decide_eq_false (by omega)
    have ke : decide (M < N) = false := decide_eq_false (by omega)
    by_cases h1 : 1 ≤ N
    · by_cases h2 : N < 9223372036854775808
      · have H3 := Lib.hid (HL2.out h1 h2)
        go_wp2_with (first
        | (go_at_call 8; (with_reducible refine (H1.out _).mono ?_); rintro e w1 ⟨rfl, l1⟩; have L1 := Lib.hid l1; clear l1)
        | (go_at_call 8; (with_reducible refine (H2.out _).mono ?_); rintro e w2 ⟨rfl, l1⟩; have L2 := Lib.hid l1; clear l1)
        | (go_at_call 8; (with_reducible refine (H3.out _).mono ?_); rintro e w4 ⟨rfl, l1⟩; have L4 := Lib.hid l1; clear l1)
        | (go_at_call 10; (with_reducible refine (awake_any _).mono ?_); rintro e w3 ⟨rfl, l1⟩; have L3 := Lib.hid l1; clear l1))
        all_goals first
          | (go_ret; exact ⟨rfl, (L1.out.trans (L2.out.mono L1.out.size)).trans ((L4.out.trans (L3.out.mono L4.out.size)).mono (Nat.le_trans L1.out.size L2.out.size))⟩)
          | (exfalso; omega)
      · have k3 : decide (N < 9223372036854775808) = false := decide_eq_false h2
        have H3 := H1
        clear h2
        go_wp2_with (first
        | (go_at_call 8; (with_reducible refine (H1.out _).mono ?_); rintro e w1 ⟨rfl, l1⟩; have L1 := Lib.hid l1; clear l1)
        | (go_at_call 8; (with_reducible refine (H2.out _).mono ?_); rintro e w2 ⟨rfl, l1⟩; have L2 := Lib.hid l1; clear l1)
        | (go_at_call 8; (with_reducible refine (H3.out _).mono ?_); rintro e w4 ⟨rfl, l1⟩; have L4 := Lib.hid l1; clear l1)
        | (go_at_call 10; (with_reducible refine (awake_any _).mono ?_); rintro e w3 ⟨rfl, l1⟩; have L3 := Lib.hid l1; clear l1))
        all_goals first
          | (go_ret; exact ⟨rfl, (L1.out.trans (L2.out.mono L1.out.size)).trans (L3.out.mono (Nat.le_trans L1.out.size L2.out.size))⟩)
          | (exfalso; omega)
    · have k3 : decide (1 ≤ N) = false := decide_eq_false h1
      have H3 := H1
      clear h1
      go_wp2_with (first
        | (go_at_call 8; (with_reducible refine (H1.out _).mono ?_); rintro e w1 ⟨rfl, l1⟩; have L1 := Lib.hid l1; clear l1)
        | (go_at_call 8; (with_reducible refine (H2.out _).mono ?_); rintro e w2 ⟨rfl, l1⟩; have L2 := Lib.hid l1; clear l1)
        | (go_at_call 8; (with_reducible refine (H3.out _).mono ?_); rintro e w4 ⟨rfl, l1⟩; have L4 := Lib.hid l1; clear l1)
        | (go_at_call 10; (with_reducible refine (awake_any _).mono ?_); rintro e w3 ⟨rfl, l1⟩; have L3 := Lib.hid l1; clear l1))
      all_goals first
        | (go_ret; exact ⟨rfl, (L1.out.trans (L2.out.mono L1.out.size)).trans (L3.out.mono (Nat.le_trans L1.out.size L2.out.size))⟩)
        | (exfalso; omega)
  · have hab := HO.out.2 (by omega)
    have kd : decide (a < b) = false := decide_eq_false (by omega)
    have ke : decide (N ≤ M) = false := decide_eq_false (by omega)
    have hml : M < N := by omega
    clear hle
    by_cases h1 : 1 ≤ N
    · by_cases h2 : N < 9223372036854775808
      · have H3 := Lib.hid (HL2.out h1 h2)
        go_wp2_with (first
        | (go_at_call 8; (with_reducible refine (H1.out _).mono ?_); rintro e w1 ⟨rfl, l1⟩; have L1 := Lib.hid l1; clear l1)
        | (go_at_call 8; (with_reducible refine (H2.out _).mono ?_); rintro e w2 ⟨rfl, l1⟩; have L2 := Lib.hid l1; clear l1)
        | (go_at_call 8; (with_reducible refine (H3.out _).mono ?_); rintro e w4 ⟨rfl, l1⟩; have L4 := Lib.hid l1; clear l1)
        | (go_at_call 10; (with_reducible refine (awake_any _).mono ?_); rintro e w3 ⟨rfl, l1⟩; have L3 := Lib.hid l1; clear l1))
        all_goals first
          | (go_ret; exact ⟨rfl, (L1.out.trans (L2.out.mono L1.out.size)).trans ((L4.out.trans (L3.out.mono L4.out.size)).mono (Nat.le_trans L1.out.size L2.out.size))⟩)
          | (exfalso; omega)
      · have k3 : decide (N < 9223372036854775808) = false := decide_eq_false h2
        have H3 := H1
        clear h2
        go_wp2_with (first
        | (go_at_call 8; (with_reducible refine (H1.out _).mono ?_); rintro e w1 ⟨rfl, l1⟩; have L1 := Lib.hid l1; clear l1)
        | (go_at_call 8; (with_reducible refine (H2.out _).mono ?_); rintro e w2 ⟨rfl, l1⟩; have L2 := Lib.hid l1; clear l1)
        | (go_at_call 8; (with_reducible refine (H3.out _).mono ?_); rintro e w4 ⟨rfl, l1⟩; have L4 := Lib.hid l1; clear l1)
        | (go_at_call 10; (with_reducible refine (awake_any _).mono ?_); rintro e w3 ⟨rfl, l1⟩; have L3 := Lib.hid l1; clear l1))
        all_goals first
          | (go_ret; exact ⟨rfl, (L1.out.trans (L2.out.mono L1.out.size)).trans (L3.out.mono (Nat.le_trans L1.out.size L2.out.size))⟩)
          | (exfalso; omega)
    · exfalso; omega
end Go.Proofs.Ytcacfidejhmieaa
