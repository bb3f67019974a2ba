/- The contracts of apart, and of the document's check. -/
import Derived.Test.YtmeijienfdefjaaFCheck
namespace Go.Proofs.Ytmeijienfdefjaa
open Go.RowKit

set_option maxHeartbeats 400000 in
theorem apart_any (A B : Nat) (w : World) (hA : A < 4294967296) (hB : B < 4294967296) :
    Calls Try.prog 73 #[.int .i64 A, .int .i64 B] w fun e w' => e = .returned (.int .i64 (A ^^^ B : Nat)) ∧ w = w' := by
  go_enter Try.func73, Try.ntmps73
  go_wp2
  go_loop [0, 1, 5, 6] (fun x y o t => ∃ a b out bit : Nat, Ap A B a b out bit ∧ x = .int .i64 a ∧ y = .int .i64 b ∧ o = .int .i64 out ∧ t = .int .i64 bit) (fun x y _ _ => (intOf x).toNat + (intOf y).toNat)
  case atStart => exact ⟨A, B, 0, 1, Ap.start A B, rfl, rfl, rfl, rfl⟩
  case round =>
    obtain ⟨a, b, out, bit, hap, rfl, rfl, rfl, rfl⟩ := hrel
    have la : a ≤ A := Nat.le_trans (Nat.le_mul_of_pos_left a hap.2.2.2) hap.2.1
    have lb : b ≤ B := Nat.le_trans (Nat.le_mul_of_pos_left b hap.2.2.2) hap.2.2.1
    by_cases hab : 0 < a ∨ 0 < b
    · obtain ⟨hb1, hb2⟩ := hap.bound hA hB hab
      have hst := hap.step
      have s1 : a % 2 ≠ b % 2 → Ap A B (a / 2) (b / 2) (out + bit) (bit * 2) := fun h => by rw [if_neg h] at hst; exact hst
      have s2 : a % 2 = b % 2 → Ap A B (a / 2) (b / 2) out (bit * 2) := fun h => by rw [if_pos h] at hst; exact hst
      have S1 := Lib.hid s1
      have S2 := Lib.hid s2
      clear hst s1 s2
      by_cases ha : 0 < a
      all_goals
        go_wp2
        · have h : ((a : Int) % 2 != (b : Int) % 2) = true := by assumption
          have hne : a % 2 ≠ b % 2 := by simp at h; omega
          go_round
          case rel => exact ⟨a / 2, b / 2, out + bit, bit * 2, S1.out hne, by go_num, by go_num, by go_num, by go_num⟩
          case measure => simp only [intOf]; omega
        · have h : ((a : Int) % 2 != (b : Int) % 2) = false := by assumption
          have hne : a % 2 = b % 2 := by simp at h; omega
          go_round
          case rel => exact ⟨a / 2, b / 2, out, bit * 2, S2.out hne, by go_num, by go_num, rfl, by go_num⟩
          case measure => simp only [intOf]; omega
    · have ha : a = 0 := by omega
      have hb : b = 0 := by omega
      subst ha hb
      have hd := hap.done
      go_wp2
      go_ret
      exact ⟨rfl, rfl⟩

set_option maxHeartbeats 400000 in
theorem refCheck_any (A : Option Addr) (n c : Nat) (F : Nat → Nat) (w : World) (h : Bytes w A n F) :
    Calls Try.prog 63 #[.slice A n c] w fun e w' => e = .returned (.int .i64 (crc F n)) ∧ w = w' := by
  obtain ⟨hn, hF, hA⟩ := h
  go_enter Try.func63, Try.ntmps63
  go_wp2
  go_loop [3, 4, 5, 6] (fun t i _ _ => ∃ k : Nat, k ≤ n ∧ i = .int .i64 k ∧ t = .int .i64 (crcTo F k)) (fun _ i _ _ => n - (intOf i).toNat)
  case atStart => exact ⟨0, Nat.zero_le _, rfl, rfl⟩
  case round =>
    obtain ⟨k, hk, rfl, rfl⟩ := hrel
    by_cases hlt : k < n
    · obtain ⟨b, o, rfl, hc⟩ := hA (by omega)
      have hck := hc k hlt
      have hFk := hF k hlt
      have hx := crcTo_lt (F := F) (n := k) fun i hi => hF i (by omega)
      go_wp2_with fail
      refine (apart_any _ _ _ hx (by omega)).mono ?_
      rintro e w' ⟨rfl, rfl⟩
      have hy := xor_lt32 hx (b := F k) (by omega)
      obtain ⟨y, hyy⟩ : ∃ y, y = crcTo F k ^^^ F k := ⟨_, rfl⟩
      rw [← hyy] at hy ⊢
      have HY := Lib.hid hyy
      clear hyy
      go_wp2
      go_loop [3, 5, 6] (fun t i _ => ∃ j : Nat, j ≤ 8 ∧ i = .int .i64 j ∧ t = .int .i64 (stpN j y)) (fun _ i _ => 8 - (intOf i).toNat)
      case atStart => exact ⟨0, Nat.zero_le _, rfl, rfl⟩
      case round =>
        obtain ⟨j, hj, rfl, rfl⟩ := hrel
        have hz := stpN_lt hy j
        by_cases hlj : j < 8
        · obtain ⟨z, hzz⟩ : ∃ z, z = stpN j y := ⟨_, rfl⟩
          rw [← hzz] at hz ⊢
          have HZ := Lib.hid hzz
          clear hzz
          by_cases hodd : z % 2 = 1
          · have hq : ((z : Int) % 2 == 1) = true := by simp; omega
            have HO := Lib.hid hodd
            clear hodd
            go_wp2_with fail
            rw [show ((z : Int) / 2) = ((z / 2 : Nat) : Int) from by omega]
            refine (apart_any (z / 2) 3988292384 _ (by omega) (by omega)).mono ?_
            rintro e w' ⟨rfl, rfl⟩
            go_wp2
            go_round
            case rel => exact ⟨j + 1, by omega, by go_num, by rw [stpN, ← HZ.out, stp, if_pos HO.out]⟩
            case measure => simp [intOf]; omega
          · have hq : ((z : Int) % 2 == 1) = false := by simp; omega
            have HO := Lib.hid hodd
            clear hodd
            go_wp2
            go_round
            case rel => exact ⟨j + 1, by omega, by go_num, by rw [stpN, ← HZ.out, stp, if_neg HO.out]; go_num⟩
            case measure => simp [intOf]; omega
        · go_wp2
          obtain rfl : j = 8 := by omega
          go_round
          case rel => exact ⟨k + 1, by omega, by go_num, by rw [HY.out]; rfl⟩
          case measure => simp [intOf]; omega
    · have hx := crcTo_lt (F := F) (n := k) fun i hi => hF i (by omega)
      go_wp2
      obtain rfl : k = n := by omega
      go_ret
      exact ⟨by unfold crc; go_num, rfl⟩
end Go.Proofs.Ytmeijienfdefjaa
