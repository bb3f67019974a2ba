/- Plain facts on a log: numbers in bytes, loads, marks, slots. -/
import Derived.Test.YtmeijienfdefjaaFReadNo
namespace Go.Proofs.Ytmeijienfdefjaa
open Go.RowKit

/-- A word of 64 bits, taken as a number that may be below 0. -/
theorem ofInt_wrap64 (y : Int) : BitVec.ofInt 64 (IntKind.i64.wrap y) = BitVec.ofInt 64 y := by
  apply BitVec.eq_of_toNat_eq
  simp only [BitVec.toNat_ofInt]
  rw [IntKind.wrap_i64]
  have h : ((y + 9223372036854775808) % 18446744073709551616 - 9223372036854775808) % ((2 ^ 64 : Nat) : Int) = y % ((2 ^ 64 : Nat) : Int) := by
    have e : ((2 ^ 64 : Nat) : Int) = 18446744073709551616 := by decide
    rw [e]
    omega
  rw [h]
theorem ofInt64_nat (a : Nat) (ha : a < 18446744073709551616) : (BitVec.ofInt 64 (a : Int)).toNat = a := by
  rw [BitVec.ofInt_natCast, BitVec.toNat_ofNat]; exact Nat.mod_eq_of_lt (by omega)
theorem or64i {x f k : Nat} (hx : x < 256 ^ k) (hf : f < 256) (hk : k < 8) :
    bits BinOp.or IntKind.i64 (x : Int) (IntKind.i64.wrap ((f : Int) * 2 ^ (8 * k))) = IntKind.i64.wrap ((x + f * 256 ^ k : Nat) : Int) := by
  have e : (2 : Int) ^ (8 * k) = ((256 ^ k : Nat) : Int) := by rw [Int.pow_mul]; simp
  have h1 := small_mul hf hk
  have h2 : (256 : Nat) ^ k ≤ 256 ^ 8 := Nat.pow_le_pow_right (by omega) (by omega)
  have e8 : (256 : Nat) ^ 8 = 18446744073709551616 := by decide
  rw [e8] at h1 h2
  show IntKind.i64.wrap ((BitVec.ofInt 64 (x : Int) ||| BitVec.ofInt 64 (IntKind.i64.wrap ((f : Int) * 2 ^ (8 * k)))).toNat : Int) = _
  rw [ofInt_wrap64, e, ← Int.natCast_mul, BitVec.toNat_or, ofInt64_nat x (by omega), ofInt64_nat _ h1, or_disjoint hx]
theorem wrap_small {x : Nat} (h : x ≤ 9223372036854775807) : IntKind.i64.wrap (x : Int) = (x : Int) := by rw [IntKind.wrap_i64]; omega
theorem pow7 {k : Nat} (h : k < 8) : (256 : Nat) ^ k ≤ 72057594037927936 := by
  have h2 : (256 : Nat) ^ k ≤ 256 ^ 7 := Nat.pow_le_pow_right (by omega) (by omega)
  have e7 : (256 : Nat) ^ 7 = 72057594037927936 := by decide
  omega

/-- What Take of eight bytes tells. -/
def takeI (F : Nat → Nat) : Int := IntKind.i64.wrap (leTo F 8 : Int)
/-- A slot's mark. -/
def mkN (epoch i : Nat) : Nat := 2097152 * epoch + i + 1
/-- What a load is, as it is laid into a slot. -/
def loadF (page : Nat) (last : Bool) (G : Nat → Nat) (i : Nat) : Nat := if i < 8 then leF page i else if i = 8 then (if last then 1 else 0) else G (i - 9)
theorem loadF_lt {page n : Nat} {last : Bool} {G : Nat → Nat} (h : ∀ i, i < n → G i < 256) : ∀ i, i < 9 + n → loadF page last G i < 256 := fun i hi => by
  unfold loadF
  split
  · exact leF_lt _ _
  · split
    · split <;> omega
    · exact h _ (by omega)

instance (F : Nat → Nat) (m : Nat) : Decidable (okP F m) := by unfold okP; exact inferInstance
/-- Is a slot's sector (F of m + 20 bytes) one of an epoch: its mark's parts. -/
def epochN (F : Nat → Nat) (m i : Nat) : Nat :=
  if okP F m then (if 1 ≤ leTo F 8 / 2097152 ∧ leTo F 8 / 2097152 ≤ 1099511627776 ∧ leTo F 8 = mkN (leTo F 8 / 2097152) i then leTo F 8 / 2097152 else 0) else 0
/-- The page and the flag of a slot's load. -/
def pageI (F : Nat → Nat) : Int := takeI fun i => F (16 + i)
def flagN (F : Nat → Nat) : Nat := F 24
/-- Does a slot hold a change of that epoch? -/
def isCh (F : Nat → Nat) (m i epoch : Nat) : Prop := epochN F m i = epoch ∧ 0 ≤ pageI F ∧ pageI F ≤ 2147483647 ∧ flagN F ≤ 1
instance (F : Nat → Nat) (m i epoch : Nat) : Decidable (isCh F m i epoch) := by unfold isCh; exact inferInstance
end Go.Proofs.Ytmeijienfdefjaa
