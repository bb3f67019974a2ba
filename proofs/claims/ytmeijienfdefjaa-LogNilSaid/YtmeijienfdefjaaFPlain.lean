/- The check of bytes as a plain function on numbers: one step, eight steps, all bytes. -/
import Derived.Laws.BitsAllLaws
namespace Go.Proofs.Ytmeijienfdefjaa

/-- One step of the check: one place down, and the polynomial if the bit that fell out was 1. -/
def stp (c : Nat) : Nat := if c % 2 = 1 then (c / 2) ^^^ 3988292384 else c / 2
def stpN : Nat → Nat → Nat
  | 0, c => c
  | k + 1, c => stp (stpN k c)
def crcTo (F : Nat → Nat) : Nat → Nat
  | 0 => 4294967295
  | k + 1 => stpN 8 (crcTo F k ^^^ F k)
def crc (F : Nat → Nat) (n : Nat) : Nat := 4294967295 - crcTo F n

theorem xor_lt32 {a b : Nat} (ha : a < 4294967296) (hb : b < 4294967296) : a ^^^ b < 4294967296 := Nat.xor_lt_two_pow (n := 32) ha hb
theorem stp_lt {c : Nat} (h : c < 4294967296) : stp c < 4294967296 := by
  unfold stp
  split
  · exact xor_lt32 (by omega) (by omega)
  · omega
theorem stpN_lt {c : Nat} (h : c < 4294967296) : ∀ k, stpN k c < 4294967296
  | 0 => h
  | k + 1 => stp_lt (stpN_lt h k)
theorem crcTo_lt {F : Nat → Nat} : ∀ {n : Nat}, (∀ i, i < n → F i < 256) → crcTo F n < 4294967296
  | 0, _ => by unfold crcTo; omega
  | n + 1, h => by
    have h1 := crcTo_lt (n := n) (F := F) fun i hi => h i (by omega)
    have h2 := h n (by omega)
    exact stpN_lt (xor_lt32 h1 (by omega)) 8
theorem crcTo_congr {F G : Nat → Nat} : ∀ {n : Nat}, (∀ i, i < n → F i = G i) → crcTo F n = crcTo G n
  | 0, _ => rfl
  | n + 1, h => by
    unfold crcTo
    rw [crcTo_congr (n := n) fun i hi => h i (by omega), h n (by omega)]
theorem crc_congr {F G : Nat → Nat} {n : Nat} (h : ∀ i, i < n → F i = G i) : crc F n = crc G n := by unfold crc; rw [crcTo_congr h]
theorem crc_lt (F : Nat → Nat) (n : Nat) : crc F n < 4294967296 := by unfold crc; omega

/-- The model's own words for one step, at u32. -/
theorem and_one (c : Nat) : c &&& 1 = c % 2 := by simp [Nat.and_one_is_mod]
theorem and_all {c : Nat} (h : c < 4294967296) : c &&& 4294967295 = c := by
  have := Nat.and_two_pow_sub_one_eq_mod c 32
  simp at this
  rw [this]; omega

/-- xor bit by bit, from the lowest. -/
theorem xor_div_two (a b : Nat) : (a ^^^ b) / 2 = (a / 2) ^^^ (b / 2) := by
  have := Nat.shiftRight_xor_distrib (a := a) (b := b) (i := 1)
  simpa only [Nat.shiftRight_eq_div_pow, Nat.pow_one] using this
theorem xor_mod_two (a b : Nat) : (a ^^^ b) % 2 = if a % 2 = b % 2 then 0 else 1 := by
  have h := Nat.testBit_xor a b 0
  simp only [Nat.testBit_zero] at h
  have h3 : (a ^^^ b) % 2 < 2 := Nat.mod_lt _ (by omega)
  have h1 : a % 2 < 2 := Nat.mod_lt _ (by omega)
  have h2 : b % 2 < 2 := Nat.mod_lt _ (by omega)
  have e : ∀ x, (a ^^^ b) % 2 = x → decide (x = 1) = (decide (a % 2 = 1) ^^ decide (b % 2 = 1)) := fun x q => by rw [← q]; exact h
  have e2 := e _ rfl
  rcases Nat.mod_two_eq_zero_or_one a with ha | ha <;> rcases Nat.mod_two_eq_zero_or_one b with hb | hb <;> rcases Nat.mod_two_eq_zero_or_one (a ^^^ b) with hc | hc <;> rw [ha, hb, hc] at e2 <;> rw [ha, hb, hc] <;> first | rfl | exact absurd e2 (by decide)
theorem xor_split (a b : Nat) : a ^^^ b = 2 * ((a / 2) ^^^ (b / 2)) + (if a % 2 = b % 2 then 0 else 1) := by
  have h := xor_div_two a b
  have h2 := xor_mod_two a b
  omega
theorem xor_all (w x : Nat) (h : x < 2 ^ w) : (2 ^ w - 1) ^^^ x = 2 ^ w - 1 - x := by
  have e := congrArg BitVec.toNat (BitVec.allOnes_xor (x := BitVec.ofNat w x))
  simp only [BitVec.toNat_xor, BitVec.toNat_allOnes, BitVec.toNat_ofNat, BitVec.toNat_not, Nat.mod_eq_of_lt h] at e
  exact e
theorem xor_all32 {x : Nat} (h : x < 4294967296) : 4294967295 ^^^ x = 4294967295 - x := xor_all 32 x h

/-- One step of the check as the walk writes it. -/
theorem stp_model {c : Nat} (h : c < 4294967296) :
    bits BinOp.xor IntKind.u32 ((c : Int) / 2) (bits BinOp.and IntKind.u32 3988292384 (-bits BinOp.and IntKind.u32 (c : Int) 1 % 4294967296)) = (stp c : Int) := by
  have e1 : bits BinOp.and IntKind.u32 (c : Int) 1 = ((c % 2 : Nat) : Int) := by
    have := u32_and_nat c 1 h (by omega)
    rw [and_one] at this
    exact this
  rw [e1]
  have e2 : ((c : Int) / 2) = ((c / 2 : Nat) : Int) := by omega
  rw [e2]
  unfold stp
  split
  · rename_i hc
    rw [hc]
    have e3 : (-((1 : Nat) : Int) % 4294967296) = ((4294967295 : Nat) : Int) := by omega
    rw [e3]
    have e4 := u32_and_nat 3988292384 4294967295 (by omega) (by omega)
    rw [and_all (by omega)] at e4
    have e5 : bits BinOp.and IntKind.u32 3988292384 ((4294967295 : Nat) : Int) = ((3988292384 : Nat) : Int) := e4
    rw [e5]
    exact u32_xor_nat _ _ (by omega) (by omega)
  · rename_i hc
    have hc0 : c % 2 = 0 := by omega
    rw [hc0]
    have e3 : (-((0 : Nat) : Int) % 4294967296) = ((0 : Nat) : Int) := by omega
    rw [e3]
    have e4 := u32_and_nat 3988292384 0 (by omega) (by omega)
    rw [Nat.and_zero] at e4
    have e5 : bits BinOp.and IntKind.u32 3988292384 ((0 : Nat) : Int) = ((0 : Nat) : Int) := e4
    rw [e5]
    have e6 := u32_xor_nat (c / 2) 0 (by omega) (by omega)
    rw [Nat.xor_zero] at e6
    exact e6
theorem not_model {c : Nat} (h : c < 4294967296) : bits BinOp.xor IntKind.u32 4294967295 (c : Int) = ((4294967295 - c : Nat) : Int) := by
  have e := u32_xor_nat 4294967295 c (by omega) h
  rw [xor_all32 h] at e
  exact e
/-- What the loop of 'apart' keeps. -/
def Ap (A B a b out bit : Nat) : Prop := out + bit * (a ^^^ b) = A ^^^ B ∧ bit * a ≤ A ∧ bit * b ≤ B ∧ 0 < bit
theorem Ap.start (A B : Nat) : Ap A B A B 0 1 := ⟨by simp, by simp, by simp, by omega⟩
theorem Ap.bound {A B a b out bit : Nat} (h : Ap A B a b out bit) (hA : A < 4294967296) (hB : B < 4294967296) (hab : 0 < a ∨ 0 < b) : bit ≤ 4294967296 ∧ out ≤ 4294967296 := by
  obtain ⟨h1, h2, h3, _⟩ := h
  have hx := xor_lt32 hA hB
  constructor
  · rcases hab with h | h
    · have := Nat.mul_le_mul_left bit (show 1 ≤ a from h); omega
    · have := Nat.mul_le_mul_left bit (show 1 ≤ b from h); omega
  · have : 0 ≤ bit * (a ^^^ b) := Nat.zero_le _
    omega
theorem Ap.step {A B a b out bit : Nat} (h : Ap A B a b out bit) : Ap A B (a / 2) (b / 2) (if a % 2 = b % 2 then out else out + bit) (bit * 2) := by
  obtain ⟨h1, h2, h3, h4⟩ := h
  have e := xor_split a b
  have d1 : bit * 2 * (a / 2) ≤ bit * a := by rw [Nat.mul_assoc]; exact Nat.mul_le_mul_left bit (by omega)
  have d2 : bit * 2 * (b / 2) ≤ bit * b := by rw [Nat.mul_assoc]; exact Nat.mul_le_mul_left bit (by omega)
  refine ⟨?_, by omega, by omega, by omega⟩
  rw [← h1, e]
  split
  · rw [Nat.add_zero, Nat.mul_assoc]
  · rw [Nat.mul_add, Nat.mul_assoc, Nat.mul_one]; omega
theorem Ap.done {A B out bit : Nat} (h : Ap A B 0 0 out bit) : out = A ^^^ B := by
  have := h.1
  simpa using this
end Go.Proofs.Ytmeijienfdefjaa
