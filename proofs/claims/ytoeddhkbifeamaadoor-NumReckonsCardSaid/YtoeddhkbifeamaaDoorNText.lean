/- Figures in a text: plain words, no program. -/
import Derived.WalkKit
import Derived.Lib.Bytealg
import Derived.PlainAid
namespace Go.Proofs.YtoeddhkbifeamaaDoor
open Go.RowKit

/-- Is a byte a figure? -/
def fig (c : UInt8) : Bool := decide (48 ≤ c.toNat ∧ c.toNat ≤ 57)
theorem fig_yes {c : UInt8} (h : fig c = true) : 48 ≤ c.toNat ∧ c.toNat ≤ 57 := by unfold fig at h; exact of_decide_eq_true h
theorem fig_no {c : UInt8} (h : fig c = false) : c.toNat < 48 ∨ 57 < c.toNat := by
  unfold fig at h
  have := of_decide_eq_false h
  omega
/-- With how many figures does a list begin? -/
def runL (l : List UInt8) : Nat := (l.takeWhile fig).length
theorem runL_le (l : List UInt8) : runL l ≤ l.length := (List.takeWhile_sublist _).length_le
theorem runL_eq : ∀ (l : List UInt8) (k : Nat) (hk : k ≤ l.length), (∀ j (h : j < k), fig (l[j]'(by omega)) = true) → (∀ h : k < l.length, fig l[k] = false) → runL l = k
  | [], k, hk, _, _ => by
    have : k = 0 := by simpa using hk
    subst this
    rfl
  | c :: l, 0, _, _, h2 => by
    have := h2 (by simp)
    simp only [List.getElem_cons_zero] at this
    simp [runL, List.takeWhile, this]
  | c :: l, k + 1, hk, h1, h2 => by
    have h0 := h1 0 (by omega)
    simp only [List.getElem_cons_zero] at h0
    have ih := runL_eq l k (by simpa using hk) (fun j h => by have := h1 (j + 1) (by omega); simpa using this) (fun h => by have := h2 (by simpa using h); simpa using this)
    simp only [runL, List.takeWhile, h0, List.length_cons] at ih ⊢
    omega
theorem runL_fig : ∀ (l : List UInt8) (j : Nat) (h : j < runL l), fig (l[j]'(Nat.lt_of_lt_of_le h (runL_le l))) = true
  | [], j, h => by simp [runL] at h
  | c :: l, j, h => by
    by_cases hc : fig c = true
    · cases j with
      | zero => simpa using hc
      | succ j =>
        have h2 : j < runL l := by simp [runL, List.takeWhile, hc] at h ⊢; omega
        simpa using runL_fig l j h2
    · simp [runL, List.takeWhile, hc] at h
theorem runL_stop : ∀ (l : List UInt8) (h : runL l < l.length), fig l[runL l] = false
  | [], h => by simp at h
  | c :: l, h => by
    by_cases hc : fig c = true
    · have e : runL (c :: l) = runL l + 1 := by simp [runL, List.takeWhile, hc]
      have h2 : runL l < l.length := by rw [e] at h; simpa using h
      have := runL_stop l h2
      simp only [e, List.getElem_cons_succ]
      exact this
    · have e : runL (c :: l) = 0 := by simp [runL, List.takeWhile, hc]
      simp only [e, List.getElem_cons_zero]
      simpa using hc
/-- From a place on. -/
def runAt (s : ByteArray) (i : Nat) : Nat := runL (s.data.toList.drop i)
theorem runAt_le (s : ByteArray) (i : Nat) (h : i ≤ s.size) : i + runAt s i ≤ s.size := by
  have := runL_le (s.data.toList.drop i)
  unfold runAt
  rw [List.length_drop] at this
  have e : s.data.toList.length = s.size := by simp
  omega
theorem runAt_tail (s : ByteArray) (i : Nat) : runAt (s.extract i s.size) 0 = runAt s i := by
  unfold runAt
  rw [List.drop_zero]
  congr 1
  simp [ByteArray.data_extract, Array.toList_extract]
  apply List.take_of_length_le
  simp
theorem byteOf (s : ByteArray) (i : Nat) (h : i < s.size) : s.data.toList[i]'(by simpa using h) = s[i] := by
  simp
  rfl
theorem runAt_zero (s : ByteArray) (k : Nat) (hk : k ≤ s.size) (h1 : ∀ j (h : j < k), fig (s[j]'(by omega)) = true) (h2 : ∀ h : k < s.size, fig s[k] = false) : runAt s 0 = k := by
  unfold runAt
  rw [List.drop_zero]
  refine runL_eq _ k (by simpa using hk) (fun j h => ?_) (fun h => ?_)
  · rw [byteOf]
    exact h1 j h
  · rw [byteOf _ _ (by simpa using h)]
    exact h2 (by simpa using h)
/-- Does one of some signs stand at a place? -/
def signAt (s : ByteArray) (i : Nat) (S : List UInt8) : Bool := match s.data.toList[i]? with
  | some c => S.contains c
  | none => false
theorem signAt_end (s : ByteArray) (S : List UInt8) : signAt s s.size S = false := by
  unfold signAt
  rw [List.getElem?_eq_none (by simp)]
theorem signAt_in (s : ByteArray) (i : Nat) (S : List UInt8) (h : i < s.size) : signAt s i S = S.contains s[i] := by
  unfold signAt
  rw [List.getElem?_eq_getElem (by simpa using h), byteOf]
theorem signAt_lt {s : ByteArray} {i : Nat} {S : List UInt8} (h : signAt s i S = true) : i < s.size := by
  rcases Nat.lt_or_ge i s.size with hl | hl
  · exact hl
  · unfold signAt at h
    rw [List.getElem?_eq_none (by simpa using hl)] at h
    cases h
theorem index_lt (c : UInt8) : ∀ S : List UInt8, decide (Lib.indexByte S c < 0) = !S.contains c
  | [] => by simp [Lib.indexByte]
  | b :: S => by
    have ih := index_lt c S
    have hm : -1 ≤ Lib.indexByte S c := by
      clear ih
      induction S with
      | nil => exact Int.le_refl _
      | cons x l ihl => simp only [Lib.indexByte]; (repeat' split) <;> omega
    by_cases hb : b = c
    · subst hb
      simp [Lib.indexByte]
    · have hb2 : (c == b) = false := by simpa using fun h => hb h.symm
      simp only [Lib.indexByte, List.contains_cons, hb2, Bool.false_or, beq_iff_eq, hb, if_false]
      rw [← ih]
      by_cases h1 : Lib.indexByte S c = -1
      · rw [if_pos h1, h1]
      · rw [if_neg h1, Bool.eq_iff_iff]
        simp only [decide_eq_true_eq]
        omega
end Go.Proofs.YtoeddhkbifeamaaDoor
