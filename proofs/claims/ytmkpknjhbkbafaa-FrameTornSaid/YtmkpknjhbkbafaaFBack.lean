/- The walk of FrameBack: a sector is read as it was made. -/
import Derived.Test.YtmkpknjhbkbafaaFReadNo
namespace Go.Proofs.Ytmkpknjhbkbafaa
open Go.RowKit

theorem sec_mark {m v n : Nat} {G : Nat → Nat} (hv : v < 18446744073709551616) (hm : 16 ≤ m) : leTo (secF m v n G) 8 = v := by
  have e8 : (256 : Nat) ^ 8 = 18446744073709551616 := by decide
  refine leTo_eq (by rw [e8]; exact hv) fun i hi => ?_
  rw [secF_head hv hm (by omega)]
  unfold headF
  rw [if_pos hi]
theorem sec_ok {m v n : Nat} {G : Nat → Nat} (h44 : 44 ≤ m) (h1 : 1 ≤ v) (h2 : v ≤ 4611686018427387904) (hF : ∀ i, i < m + 20 → secF m v n G i < 256) : okP (secF m v n G) m := by
  have hv : v < 18446744073709551616 := by omega
  refine (ok_iff h44 hF).2 ?_
  unfold secP
  rw [sec_mark hv (by omega)]
  refine ⟨⟨h1, h2⟩, fun i hi => ?_⟩
  have hbody : ∀ j, j < m → bodyF v (m - 16) (fun j => secF m v n G (16 + j)) j = bodyF v n G j := fun j hj => by
    rw [← secF_body hv hj, ← secF_body (n := n) hv hj]
    by_cases h16 : j < 16
    · rw [secF_head hv (by omega) h16, secF_head hv (by omega) h16]
    · rw [secF_load hv (by omega) (by omega) hj]
      show secF m v n G (16 + (j - 16)) = _
      congr 1
      omega
  by_cases h1 : i < m
  · rw [secF_body hv h1, secF_body hv h1]
    exact hbody i h1
  · by_cases h2 : i < m + 4
    · obtain ⟨k, rfl⟩ : ∃ k, i = m + k := ⟨i - m, by omega⟩
      rw [secF_sum hv (by omega), secF_sum hv (by omega), crc_congr hbody]
    · obtain ⟨k, rfl⟩ : ∃ k, i = m + 4 + k := ⟨i - (m + 4), by omega⟩
      rw [secF_tail hv (by omega), secF_tail hv (by omega)]

set_option maxHeartbeats 1000000 in
theorem frameBack_walk (size mark : Int) (A : Option Addr) (n c : Nat) (F : Nat → Nat) (w : World) (hs1 : -9223372036854775808 ≤ size) (hs2 : size ≤ 9223372036854775807) (hb : Bytes w A n F) :
    Calls Try.prog 7 #[.int .i64 size, .int .i64 mark, .slice A n c] w fun e w' => e = .returned (.bool true) ∧ Below w.heap.size w w' := by
  have hn := hb.1
  by_cases hlen : 5000 < n
  · go_enter Try.func7, Try.ntmps7
    go_wp2
    go_ret
    exact ⟨rfl, Below.refl _ _⟩
  · by_cases herr : bErr size mark n = 0
    · have hs : ¬ (size < 64 ∨ 4096 < size) := fun h => by rw [bErr_1 h] at herr; cases herr
      have hk : ¬ (mark < 1 ∨ 4611686018427387904 < mark) := fun h => by rw [bErr_2 hs h] at herr; cases herr
      have hl : ¬ size - 36 < n := fun h => by rw [bErr_3 hs hk h] at herr; cases herr
      clear herr
      obtain ⟨s, rfl⟩ := Int.eq_ofNat_of_zero_le (show 0 ≤ size by omega)
      obtain ⟨k, rfl⟩ := Int.eq_ofNat_of_zero_le (show 0 ≤ mark by omega)
      obtain ⟨m, hm1, hm2⟩ : ∃ m, m + 20 ≤ s ∧ s ≤ m + 20 := ⟨s - 20, by omega, by omega⟩
      have h44 : 44 ≤ m := by omega
      have hm : m ≤ 4076 := by omega
      have hk1 : 1 ≤ k := by omega
      have hk2 : k ≤ 4611686018427387904 := by omega
      have hn16 : 16 + n ≤ m := by omega
      clear hs hk hl hs1 hs2
      go_enter Try.func7, Try.ntmps7
      go_wp2_with fail
      refine (build_ok s m k n c A F w hm1 hm2 h44 hm hk1 hk2 hn16 hb).mono ?_
      rintro e W1 ⟨rfl, b1, l1⟩
      have hok := sec_ok h44 hk1 hk2 fun i hi => b1.2.1 i (by omega)
      have bb : Bytes W1 (some ⟨w.heap.size, 0, none⟩) s (secF m k n F) := (b1.bytes (o := 0) (m := s) (by omega)).congr fun i _ => by rw [Nat.zero_add]
      have OK := Lib.hid hok
      clear hok b1
      go_wp2_with fail
      refine (read_yes _ 0 s m s (secF m k n F) W1 hm1 hm2 h44 hm (Nat.le_refl _) (by omega) bb OK.out).mono ?_
      rintro e W2 ⟨B, d, rfl, b2, d2, _, l2⟩
      rw [sec_mark (by omega) (by omega)]
      have l3 : Below w.heap.size w W2 := l1.trans (l2.mono l1.size)
      have hb2 := hb.below l3 (Nat.le_refl _)
      have kc1 := fun q : Nat => conv_any (w := W2.drewN q) d (b2.head n (by omega))
      have kc2 := fun q : Nat => conv_any (w := W2.drewN q) c hb2
      have hq : strF (fun i => secF m k n F (16 + i)) n = strF F n := strF_congr fun i hi => by
        rw [secF_load (by omega) (by omega) (by omega) (by omega)]
        congr 1
        omega
      simp only [hq] at kc1
      have q1 : ((k : Int) != (k : Int)) = false := by simp
      have hR : roomI (s : Int) = ((m - 16 : Nat) : Int) := by unfold roomI; rw [if_pos (by omega)]; omega
      have q2 : (((m - 16 : Nat) : Int) != roomI (s : Int)) = false := by rw [hR]; simp
      have q3 : decide (((m - 16 : Nat) : Int) < (n : Int)) = false := decide_eq_false (by omega)
      have q3n : decide (m - 16 < n) = false := decide_eq_false (by omega)
      have q4 : ((strF F n).toList == (strF F n).toList) = true := by simp
      clear hR hq l1 l2 bb
      go_wp2_with fail
      go_quiet ((go_at_call 14; exact Calls.quiet_of_same ((room_any _ _ (by omega) (by omega)).mono fun e w' ⟨he, hw⟩ => ⟨he, hw.symm⟩)))
      obtain ⟨bb2, ob2, rfl, hc⟩ := b2.2.2 (by omega)
      have hz : ∀ i, n ≤ i → i < m - 16 → (W2.drewN nq).cell? ⟨bb2, ob2 + i, none⟩ = some (.int .u8 0) := fun i h1 h2 => by
        have h3 := hc i h2
        dsimp only at h3
        rw [secF_zero (by omega) (by omega) (by omega)] at h3
        exact h3
      have l4 := below_drewN l3 nq
      generalize World.drewN W2 nq = W3 at *
      clear kc1 kc2 q1 q2 q3 q3n q4 hb2 b2 hc l3
      have HZ := Lib.hid hz
      clear hz
      go_wp2
      go_loop [12] (fun t => ∃ i : Nat, n ≤ i ∧ i ≤ m - 16 ∧ t = .int .i64 i) (fun t => (m - 16) - (intOf t).toNat)
      case atStart => exact ⟨n, Nat.le_refl _, by omega, rfl⟩
      case round =>
        obtain ⟨i, hi1, hi2, rfl⟩ := hrel
        by_cases hlt : i < m - 16
        · have hci := HZ.out i hi1 hlt
          go_wp2
          go_round
          case rel => exact ⟨i + 1, by omega, by omega, by go_num⟩
          case measure => simp only [intOf]; omega
        · go_wp2_with fail
          refine (awake_any W3).mono ?_
          rintro e W4 ⟨rfl, l5⟩
          have l6 : Below w.heap.size w W4 := l4.trans (l5.mono l4.size)
          clear l4 l5
          go_wp2
          go_ret
          exact ⟨rfl, l6⟩
    · have hl0 : bLen size mark n = 0 := by unfold bLen; rw [if_neg herr]
      have q1 : (bErr size mark n != 0) = true := by rw [bne_iff_ne]; exact herr
      have HL := Lib.hid hl0
      clear herr hl0
      go_enter Try.func7, Try.ntmps7
      go_wp2_with fail
      refine (build_all size mark n _ _ F w hb).mono ?_
      rintro e W1 ⟨B, d, rfl, b1, l1⟩
      rw [HL.out]
      clear b1
      go_wp2_with fail
      refine (awake_any W1).mono ?_
      rintro e W4 ⟨rfl, l5⟩
      have l6 : Below w.heap.size w W4 := l1.trans (l5.mono l1.size)
      clear l1 l5
      go_wp2
      go_ret
      exact ⟨rfl, l6⟩
end Go.Proofs.Ytmkpknjhbkbafaa
