/- stem: the document's Measure; StemMeasures: the walk. -/
import Derived.Test.YtoainljghfldlaaSMeasM
namespace Go.Proofs.Ytoainljghfldlaa
open Go.RowKit
set_option linter.unusedVariables false
set_option linter.unusedSimpArgs false

open Go.Shelf
attribute [local go_sem] Oper.semAt_some
set_option maxRecDepth 100000 in
set_option maxHeartbeats 8000000 in
theorem refMeasure_any (t : List UInt8) (ht : t.length ≤ 1000000) (w : World) : Calls Try.prog 8 #[.string (mkB t)] w fun e w' => e = .returned (.int .i64 (refK t t.length : Nat)) ∧ w' = w := by
  have hsz := mkB_size t
  have KV := Lib.hid fun i W h => vowel_any t ht i W h
  obtain ⟨bt, hbt⟩ : ∃ b, b = mkB t := ⟨_, rfl⟩
  rw [← hbt] at hsz KV ⊢
  have HSZ := Lib.hid hsz
  have hb : bt.size ≤ 1000000 := by omega
  clear hbt hsz
  go_enter Try.func8, Try.ntmps8
  go_wp2
  go_loop [3, 4] (fun n i => ∃ k : Nat, 1 ≤ k ∧ (k ≤ bt.size ∨ k = 1) ∧ i = .int .i64 k ∧ n = .int .i64 (refK t k : Nat)) (fun _ i => bt.size - (intOf i).toNat)
  case atStart => exact ⟨1, by omega, .inr rfl, rfl, rfl⟩
  case round =>
    obtain ⟨k, hk1, hk, rfl, rfl⟩ := hrel
    have hkb : k ≤ 1000001 := by omega
    have hle := refK_le t k
    have HKK := Lib.hid hk
    clear hk
    by_cases hlt : k < bt.size
    · have hkt : k < t.length := by rw [← HSZ.out]; exact hlt
      have hm1 : ((k : Int) - 1) = ((k - 1 : Nat) : Int) := by omega
      have K1 := Lib.hid (KV.out (k - 1) w (by omega))
      have K2 := Lib.hid (KV.out k w hkt)
      rw [← hm1] at K1
      have HRK := Lib.hid (refK_succ t hk1)
      obtain ⟨r, hr⟩ : ∃ r, r = refK t k := ⟨_, rfl⟩
      rw [← hr] at hle HRK ⊢
      clear hm1 hr hkt
      cases h1 : vAt t (k - 1)
      · rw [h1] at K1 HRK
        clear h1
        go_wp2_with (first
          | (go_at_call 12; (with_reducible refine K1.out.mono ?_); rintro _ _ ⟨rfl, rfl⟩))
        go_round
        case rel => exact ⟨k + 1, by omega, .inl (by omega), by go_num, by rw [HRK.out]; rfl⟩
        case measure => simp [intOf]; omega
      · rw [h1] at K1 HRK
        clear h1
        cases h2 : vAt t k
        · rw [h2] at K2 HRK
          clear h2
          go_wp2_with (first
            | (go_at_call 12; (with_reducible refine K1.out.mono ?_); rintro _ _ ⟨rfl, rfl⟩)
            | (go_at_call 12; (with_reducible refine K2.out.mono ?_); rintro _ _ ⟨rfl, rfl⟩))
          go_round
          case rel => exact ⟨k + 1, by omega, .inl (by omega), by go_num, by rw [HRK.out]; rfl⟩
          case measure => simp [intOf]; omega
        · rw [h2] at K2 HRK
          clear h2
          go_wp2_with (first
            | (go_at_call 12; (with_reducible refine K1.out.mono ?_); rintro _ _ ⟨rfl, rfl⟩)
            | (go_at_call 12; (with_reducible refine K2.out.mono ?_); rintro _ _ ⟨rfl, rfl⟩))
          go_round
          case rel => exact ⟨k + 1, by omega, .inl (by omega), by go_num, by rw [HRK.out]; rfl⟩
          case measure => simp [intOf]; omega
    · have HE := Lib.hid (show refK t t.length = refK t k by
        rcases HKK.out with h | rfl
        · rw [show t.length = k by rw [← HSZ.out]; omega]
        · have : t.length = 0 ∨ t.length = 1 := by rw [← HSZ.out]; omega
          rcases this with h | h <;> rw [h] <;> rfl)
      go_wp2
      go_ret
      exact ⟨by rw [HE.out]; rfl, rfl⟩
set_option maxRecDepth 100000 in
set_option maxHeartbeats 8000000 in
theorem stemMeasures_walk (t : List UInt8) (hm : (mkB t).size ≤ maxLen) (w : World) : Calls Try.prog 3 #[.string (mkB t)] w fun e w' => e = .returned (.bool true) ∧ Below w.heap.size w w' := by
  unfold maxLen at hm
  have hsz := mkB_size t
  have HX := Lib.hid (byte_at t)
  by_cases hl : t.length ≤ 200
  · have KM := Lib.hid fun W => measure_any t (by omega) W
    have KR := Lib.hid fun W => refMeasure_any t (by omega) W
    have KA := Lib.hid fun W => awake_any W
    have HML := Lib.hid (meas_le t)
    obtain ⟨bt, hbt⟩ : ∃ b, b = mkB t := ⟨_, rfl⟩
    have HX2 := Lib.hid (show ∀ i, i < t.length → ∀ h, (bt[i]'h) = t.getD i 0 by subst hbt; exact fun i hi h => HX.out i hi h)
    rw [← hbt] at hsz KM KR hm ⊢
    have hb : bt.size ≤ 200 := by omega
    have HSZ := Lib.hid hsz
    clear hbt hsz HX
    go_enter Try.func3, Try.ntmps3
    go_wp2
    go_loop [3] (fun i => ∃ k : Nat, k ≤ bt.size ∧ i = .int .i64 k ∧ (t.take k).all letB = true) (fun i => bt.size - (intOf i).toNat)
    case atStart => exact ⟨0, by omega, rfl, by simp⟩
    case round =>
      obtain ⟨k, hk, rfl, hal⟩ := hrel
      have HAL := Lib.hid hal
      clear hal
      by_cases hlt : k < bt.size
      · have hkt : k < t.length := by rw [← HSZ.out]; exact hlt
        have hAe := HX2.out k hkt
        cases hb2 : letB (t.getD k 0)
        · have ho := letB_out hb2
          obtain ⟨x, hx⟩ : ∃ x, x = t.getD k 0 := ⟨_, rfl⟩
          rw [← hx] at hAe ho
          obtain ⟨m, hmm⟩ : ∃ m, m = measL t := ⟨_, rfl⟩
          rw [← hmm] at KM
          clear hx hb2 hkt hmm
          rcases ho with i1 | ⟨i1, i2⟩
          · go_wp2_with (first
              | (go_at_call 6; refine (KM.out _).mono ?_; rintro _ w1 ⟨rfl, hb1⟩; have HB1 := Lib.hid hb1; clear hb1)
              | (go_at_call 7; refine (KA.out _).mono ?_; rintro _ w2 ⟨rfl, hb2⟩; have HB2 := Lib.hid (HB1.out.trans (hb2.mono HB1.out.size)); clear hb2))
            go_ret
            exact ⟨rfl, HB2.out⟩
          · have i3 : ¬ (x.toNat : Int) < 97 := by omega
            go_wp2_with (first
              | (go_at_call 6; refine (KM.out _).mono ?_; rintro _ w1 ⟨rfl, hb1⟩; have HB1 := Lib.hid hb1; clear hb1)
              | (go_at_call 7; refine (KA.out _).mono ?_; rintro _ w2 ⟨rfl, hb2⟩; have HB2 := Lib.hid (HB1.out.trans (hb2.mono HB1.out.size)); clear hb2))
            go_ret
            exact ⟨rfl, HB2.out⟩
        · have HA2 := Lib.hid (all_snoc hkt HAL.out hb2)
          obtain ⟨i1, i2⟩ := letB_in hb2
          obtain ⟨x, hx⟩ : ∃ x, x = t.getD k 0 := ⟨_, rfl⟩
          rw [← hx] at hAe i1 i2
          have i3 : ¬ (x.toNat : Int) < 97 := by omega
          have i4 : ¬ (122 : Int) < (x.toNat : Int) := by omega
          clear hx hb2 hkt
          go_wp2
          go_round
          case rel => exact ⟨k + 1, by omega, by go_num, HA2.out⟩
          case measure => simp [intOf]; omega
      · obtain rfl : k = bt.size := by omega
        have HE := meas_ref t (by have := HAL.out; rwa [List.take_of_length_le (by rw [← HSZ.out]; omega)] at this)
        rw [HE] at KM
        obtain ⟨m, hmm⟩ : ∃ m, m = refK t t.length := ⟨_, rfl⟩
        rw [← hmm] at KM KR
        clear HE hmm
        go_wp2_with (first
          | (go_at_call 6; refine (KM.out _).mono ?_; rintro _ w1 ⟨rfl, hb1⟩; have HB1 := Lib.hid hb1; clear hb1)
          | (go_at_call 8; refine (KR.out _).mono ?_; rintro _ _ ⟨rfl, rfl⟩)
          | (go_at_call 7; refine (KA.out _).mono ?_; rintro _ w2 ⟨rfl, hb2⟩; have HB2 := Lib.hid (HB1.out.trans (hb2.mono HB1.out.size)); clear hb2))
        go_ret
        exact ⟨rfl, HB2.out⟩
  · obtain ⟨bt, hbt⟩ : ∃ b, b = mkB t := ⟨_, rfl⟩
    rw [← hbt] at hsz hm ⊢
    have hb : (200 : Int) < (bt.size : Int) := by omega
    clear hsz hbt hl HX
    go_enter Try.func3, Try.ntmps3
    go_wp2
    go_ret
    exact ⟨rfl, Below.refl _ _⟩
end Go.Proofs.Ytoainljghfldlaa
