/- Figures of a number as bytes: plain words, no program. -/
import Derived.Test.YtdpgoddhchoefaaWPlain
import Derived.Lib.ItoaMem
namespace Go.Proofs.Ytdpgoddhchoefaa
open Go.RowKit
set_option linter.unusedVariables false

theorem dec_small {u : Nat} (h : u < 10) : Lib.decDigits u = [UInt8.ofNat (48 + u)] := Lib.decDigits_one h
theorem dec_big {u : Nat} (h : 10 ≤ u) : Lib.decDigits u = Lib.decDigits (u / 10) ++ [UInt8.ofNat (48 + u % 10)] := by
  rw [Lib.decDigits, dif_neg (by omega)]
/-- The last k figures. -/
def digL (N k : Nat) : List UInt8 := (List.range k).map fun i => UInt8.ofNat (48 + N / 10 ^ (k - 1 - i) % 10)
theorem digL_next (N k : Nat) : digL N (k + 1) = digL (N / 10) k ++ [UInt8.ofNat (48 + N % 10)] := by
  unfold digL
  rw [List.range_succ, List.map_append]
  congr 1
  · apply List.map_congr_left
    intro i hi
    have hi := List.mem_range.1 hi
    have e : k + 1 - 1 - i = (k - 1 - i) + 1 := by omega
    rw [e, Nat.pow_succ, Nat.mul_comm, ← Nat.div_div_eq_div_mul]
  · simp
theorem dec_digL : ∀ (k N : Nat), N < 10 ^ (k + 1) → (k = 0 ∨ 10 ^ k ≤ N) → Lib.decDigits N = digL N (k + 1)
  | 0, N, h, _ => by
    rw [dec_small (by simpa using h)]
    unfold digL
    simp
    rw [Nat.mod_eq_of_lt (by simpa using h)]
  | k + 1, N, h, hk => by
    have h1 : 10 ^ (k + 1) ≤ N := by rcases hk with h | h; omega; exact h
    have h2 : 10 ≤ N := by rw [Nat.pow_succ] at h1; have := Nat.pow_pos (n := k) (show 0 < 10 by omega); omega
    have h3 : N / 10 < 10 ^ (k + 1) := by rw [Nat.pow_succ] at h; omega
    have h4 : 10 ^ k ≤ N / 10 := by rw [Nat.pow_succ] at h1; omega
    rw [dec_big h2, digL_next, ← dec_digL k (N / 10) h3 (.inr h4)]
/-- The size of a wide number; its text. -/
def szW (x : Int) : Nat := (svW x).natAbs
theorem szW_bd (x : Int) : szW x ≤ 170141183460469231731687303715884105728 := by unfold szW; have := sv_bd x; omega
def textL (x : Int) : List UInt8 := if svW x < 0 then 45 :: Lib.decDigits (szW x) else Lib.decDigits (szW x)
theorem textL_neg {x : Int} (h : svW x < 0) : textL x = 45 :: Lib.decDigits (szW x) := if_pos h
theorem textL_pos {x : Int} (h : ¬ svW x < 0) : textL x = Lib.decDigits (szW x) := if_neg h
/-- The halves of a number without a sign. -/
theorem half_tenth (N : Nat) : (N : Int) / 18446744073709551616 / 10 = ((N / 10 : Nat) : Int) / 18446744073709551616 ∧
    ((N : Int) / 18446744073709551616 % 10 * 18446744073709551616 + (N : Int) % 18446744073709551616) / 10 = ((N / 10 : Nat) : Int) % 18446744073709551616 ∧
    ((N : Int) / 18446744073709551616 % 10 * 18446744073709551616 + (N : Int) % 18446744073709551616) % 10 = ((N % 10 : Nat) : Int) := by omega
theorem size_neg (x : Int) (h : svW x < 0) : IntKind.u64.wrap (hiW (-x)) = (szW x : Int) / 18446744073709551616 ∧ loW (-x) = (szW x : Int) % 18446744073709551616 := by
  rw [IntKind.wrap_u64]
  have e : ((szW x : Nat) : Int) = -svW x := by unfold szW; omega
  rw [e]
  clear e
  unfold svW hiW loW at *
  omega
theorem size_pos (x : Int) (h : ¬ svW x < 0) : hiW x = (szW x : Int) / 18446744073709551616 ∧ loW x = (szW x : Int) % 18446744073709551616 := by
  have e : ((szW x : Nat) : Int) = svW x := by unfold szW; omega
  rw [e]
  clear e
  unfold svW hiW loW at *
  omega
theorem hi_sign (x : Int) : svW x < 0 ↔ hiW x < 0 := by unfold svW hiW loW; omega
end Go.Proofs.Ytdpgoddhchoefaa
