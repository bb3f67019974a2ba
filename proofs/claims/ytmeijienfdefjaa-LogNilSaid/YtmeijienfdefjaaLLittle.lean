/- little.Put, little.Take; the log's small functions. -/
import Derived.Test.YtmeijienfdefjaaLPlain
import Derived.Test.YtmeijienfdefjaaFBuild
namespace Go.Proofs.Ytmeijienfdefjaa
open Go.RowKit
set_option linter.unusedVariables false

theorem byte_at2 (v k : Nat) : ((v : Int) / 2 ^ (8 * k) % 256) = ((v / 256 ^ k % 256 : Nat) : Int) := byte_at v k
set_option maxHeartbeats 1000000 in
theorem put_any (g off m c n v : Nat) (F : Nat → Nat) (w : World) (h : BRow w g n F) (hm : off + 8 ≤ n) (h8 : 8 ≤ m) (hmc : m ≤ c) (hc : c ≤ 9223372036854775807) (hv : v ≤ 9223372036854775807) :
    Calls Try.prog 68 #[.slice (some ⟨g, off, none⟩) m c, .int .i64 v] w fun e w' => e = .returned (.tuple #[]) ∧ BRow w' g n (putF F off 8 v) ∧ w.grownBy w' (some g) := by
  have hc8 : 8 ≤ c := by omega
  have hv0 : (0 : Int) ≤ v := by omega
  go_enter Try.func68, Try.ntmps68
  go_wp2_with fail
  go_loopw [8] (fun i wr => ∃ k : Nat, k ≤ 8 ∧ i = .int .i64 k ∧ BRow wr g n (putF F off k v) ∧ w.grownBy wr (some g)) (fun i _ => 8 - (intOf i).toNat)
  case atStart => exact ⟨0, by omega, rfl, h.congr fun i _ => by unfold putF; rw [if_neg (by omega)], World.grownBy.refl w _⟩
  case round =>
    obtain ⟨k, hk, rfl, hr, hg⟩ := hrel
    by_cases hlt : k < 8
    · have hc := hr.cell (i := off + k) (by omega)
      have hf := hr.frozen (off + k)
      have hkm : k < m := by omega
      go_wp2_with fail
      rw [byte_at]
      go_roundw
      case rel => exact ⟨k + 1, by omega, by go_num, (hr.set_ (off + k) _ (Nat.mod_lt _ (by omega))).congr fun i _ => putF_step F off k v i, hg.trans (grown_store _ _ _)⟩
      case measure => simp [intOf]; omega
    · obtain rfl : k = 8 := by omega
      go_wp2_with fail
      go_end0
      exact ⟨rfl, hr, hg⟩
theorem leTo_small {F : Nat → Nat} : ∀ {k : Nat}, (∀ i, i < k → F i < 256) → leTo F k < 256 ^ k := fun {k} h => leTo_lt h
set_option maxHeartbeats 1000000 in
theorem take_any (b o m c : Nat) (F : Nat → Nat) (w : World) (h : Bytes w (some ⟨b, o, none⟩) m F) (h8 : 8 ≤ m) (hmc : m ≤ c) (hc : c ≤ 9223372036854775807) :
    Calls Try.prog 58 #[.slice (some ⟨b, o, none⟩) m c] w fun e w' => e = .returned (.int .i64 (takeI F)) ∧ w = w' := by
  have hc8 : 8 ≤ c := by omega
  have hlt := h.2.1
  obtain ⟨b', o', e, hcell⟩ := h.2.2 (by omega)
  injection e with e
  injection e with e1 e2
  subst e1 e2
  go_enter Try.func58, Try.ntmps58
  go_wp2
  go_loop [3, 9] (fun n i => ∃ k : Nat, k ≤ 8 ∧ i = .int .i64 k ∧ n = .int .i64 (IntKind.i64.wrap (leTo F k : Int))) (fun _ i => 8 - (intOf i).toNat)
  case atStart => exact ⟨0, by omega, rfl, rfl⟩
  case round =>
    obtain ⟨k, hk, rfl, rfl⟩ := hrel
    by_cases hlt8 : k < 8
    · have hck := hcell k (by omega)
      have hx := leTo_small (F := F) (k := k) fun i hi => hlt i (by omega)
      have hFk := hlt k (by omega)
      have HO := Lib.hid (or64i hx hFk hlt8)
      have hkm : k < m := by omega
      rw [show IntKind.i64.wrap (leTo F k : Int) = (leTo F k : Int) from wrap_small (by have := pow7 hlt8; omega)]
      clear hx
      go_wp2
      go_round
      case rel =>
        refine ⟨k + 1, by omega, by go_num, ?_⟩
        exact congrArg _ (by rw [← IntWalk.i64_left]; exact HO.out)
      case measure => simp [intOf]; omega
    · go_wp2
      obtain rfl : k = 8 := by omega
      go_ret
      exact ⟨rfl, rfl⟩
def isEpochB (n : Int) : Bool := decide (1 ≤ n ∧ n ≤ 1099511627776)
def isPageB (n : Int) : Bool := decide (0 ≤ n ∧ n ≤ 2147483647)
theorem ret_bl {a b : Bool} (h : a = b) : Ending.returned (.bool a) = .returned (.bool b) := by rw [h]
theorem isEpoch_any (n : Int) (w : World) : Calls Try.prog 35 #[.int .i64 n] w fun e w' => e = .returned (.bool (isEpochB n)) ∧ w = w' := by
  by_cases h1 : 1 ≤ n <;> by_cases h2 : n ≤ 1099511627776
  all_goals
    have H := Lib.hid (show isEpochB n = decide (1 ≤ n ∧ n ≤ 1099511627776) from rfl)
    go_enter Try.func35, Try.ntmps35
    go_wp2
    go_ret
    exact ⟨ret_bl (by rw [H.out]; first | exact (decide_eq_true (by omega)).symm | exact (decide_eq_false (by omega)).symm), rfl⟩
theorem isPage_any (n : Int) (w : World) : Calls Try.prog 59 #[.int .i64 n] w fun e w' => e = .returned (.bool (isPageB n)) ∧ w = w' := by
  by_cases h1 : 0 ≤ n <;> by_cases h2 : n ≤ 2147483647
  all_goals
    have H := Lib.hid (show isPageB n = decide (0 ≤ n ∧ n ≤ 2147483647) from rfl)
    go_enter Try.func59, Try.ntmps59
    go_wp2
    go_ret
    exact ⟨ret_bl (by rw [H.out]; first | exact (decide_eq_true (by omega)).symm | exact (decide_eq_false (by omega)).symm), rfl⟩
theorem markOf_any (epoch i : Nat) (w : World) (he : epoch ≤ 1099511627776) (hi : i ≤ 1048576) : Calls Try.prog 62 #[.int .i64 epoch, .int .i64 i] w fun e w' => e = .returned (.int .i64 (mkN epoch i : Nat)) ∧ w = w' := by
  have H := Lib.hid (show ((mkN epoch i : Nat) : Int) = 2097152 * (epoch : Int) + (i : Int) + 1 by unfold mkN; omega)
  go_enter Try.func62, Try.ntmps62
  go_wp2
  go_ret
  exact ⟨by rw [H.out]; rfl, rfl⟩
end Go.Proofs.Ytmeijienfdefjaa
