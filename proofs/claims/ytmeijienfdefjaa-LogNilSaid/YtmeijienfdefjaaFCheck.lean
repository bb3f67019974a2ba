/- The contracts of the check (frame.Check), of apart, and of the document's check. -/
import Derived.Test.YtmeijienfdefjaaMMem
import Derived.Test.YtmeijienfdefjaaProg
import Derived.Test.YtmeijienfdefjaaFPlain
import Derived.WalkKit
import Derived.WalkSpells
import Derived.WalkLawsBesides
import Derived.Lib.Hide
namespace Go.Proofs.Ytmeijienfdefjaa
open Go.RowKit

set_option maxHeartbeats 400000 in
theorem check_any (A : Option Addr) (n c : Nat) (F : Nat → Nat) (w : World) (h : Bytes w A n F) :
    Calls Try.prog 72 #[.slice A n c] w fun e w' => e = .returned (.int .u32 (crc F n)) ∧ w = w' := by
  obtain ⟨hn, hF, hA⟩ := h
  have hs32 : IntKind.u32.signed = false := rfl
  go_enter Try.func72, Try.ntmps72
  go_wp2
  go_loop [3, 8] (fun t i => ∃ k : Nat, k ≤ n ∧ i = .int .i64 k ∧ t = .int .u32 (crcTo F k)) (fun _ i => n - (intOf i).toNat)
  case atStart => exact ⟨0, Nat.zero_le _, rfl, rfl⟩
  case round =>
    obtain ⟨k, hk, rfl, rfl⟩ := hrel
    by_cases hlt : k < n
    · obtain ⟨b, o, rfl, hc⟩ := hA (by omega)
      have hck := hc k hlt
      have hFk := hF k hlt
      have hx := crcTo_lt (F := F) (n := k) fun i hi => hF i (by omega)
      go_wp2
      rw [u32_xor_nat _ _ hx (by omega)]
      have hy := xor_lt32 hx (b := F k) (by omega)
      obtain ⟨y, hyy⟩ : ∃ y, y = crcTo F k ^^^ F k := ⟨_, rfl⟩
      rw [← hyy] at hy ⊢
      have HY := Lib.hid hyy
      clear hyy
      go_loop [3, 5, 18] (fun t _ i => ∃ j : Nat, j ≤ 8 ∧ i = .int .i64 j ∧ t = .int .u32 (stpN j y)) (fun _ _ i => 8 - (intOf i).toNat)
      case atStart => exact ⟨0, Nat.zero_le _, rfl, rfl⟩
      case round =>
        obtain ⟨j, hj, rfl, rfl⟩ := hrel
        have hz := stpN_lt hy j
        by_cases hlj : j < 8
        · go_wp2
          go_round
          case rel =>
            refine ⟨j + 1, by omega, by go_num, ?_⟩
            exact congrArg _ (stp_model hz)
          case measure => simp [intOf]; omega
        · go_wp2
          obtain rfl : j = 8 := by omega
          go_round
          case rel =>
            refine ⟨k + 1, by omega, by go_num, ?_⟩
            rw [HY.out]
            rfl
          case measure => simp [intOf]; omega
    · go_wp2
      obtain rfl : k = n := by omega
      go_ret
      have hx := crcTo_lt hF
      exact ⟨by exact congrArg _ (congrArg _ (not_model hx)), rfl⟩
end Go.Proofs.Ytmeijienfdefjaa
