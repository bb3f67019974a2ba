/- The document's value and the program's are one: plain words. -/
import Derived.Test.YtoeddhkbifeamaaDoorNRefShape
namespace Go.Proofs.YtoeddhkbifeamaaDoor
open Go.RowKit
set_option linter.unusedVariables false

def shiftP (p : Pc) : Int := if p.down = true then -(smallV p.exponent.data.toList : Int) else (smallV p.exponent.data.toList : Int)
theorem shift_le (p : Pc) : -1000000 ≤ shiftP p ∧ shiftP p ≤ 1000000 := by
  have : smallV p.exponent.data.toList ≤ 1000000 := by unfold smallV; omega
  unfold shiftP
  split <;> omega
/-- Where the two exponents part, both are far away. -/
theorem shift_pow (p : Pc) : shiftP p = powV p ∨ (shiftP p = 1000000 ∧ 1000000 ≤ powV p) ∨ (shiftP p = -1000000 ∧ powV p ≤ -1000000) := by
  unfold shiftP powV
  rw [clip_eq]
  unfold smallV
  by_cases hd : p.down = true
  · rw [if_pos hd, if_pos hd]; omega
  · rw [if_neg hd, if_neg hd]; omega
def pwP (p : Pc) : Int := shiftP p - p.rest.size + 7 + ((frontL p).length - (bareL p).length : Nat)
theorem bare_le (p : Pc) : (bareL p).length ≤ (frontL p).length := trimR_le _ _
theorem front_le (p : Pc) : (frontL p).length ≤ p.whole.size + p.rest.size := by
  unfold frontL
  refine Nat.le_trans (List.dropWhile_sublist _).length_le ?_
  rw [List.length_append]
  simp
theorem ref_no (p : Pc) (h1 : p.whole.size ≤ 70000) (h2 : p.rest.size ≤ 70000) (hn : bareL p ≠ []) (h : pwP p < 0 ∨ 19 < ((bareL p).length : Int) + pwP p) : valV p = 0 ∧ valE p = 12 := by
  have hb := bare_le p
  have hf := front_le p
  have hz : zerosZ p < 0 ∨ 19 < ((bareL p).length : Int) + zerosZ p := by
    unfold zerosZ
    unfold pwP at h
    rcases shift_pow p with e | ⟨e1, e2⟩ | ⟨e1, e2⟩
    · rw [e] at h; omega
    · omega
    · omega
  exact ⟨by unfold valV; rw [if_neg hn, if_pos hz], by unfold valE; rw [if_neg hn, if_pos hz]⟩
theorem ref_yes (p : Pc) (h1 : p.whole.size ≤ 70000) (h2 : p.rest.size ≤ 70000) (hn : bareL p ≠ []) (h3 : 0 ≤ pwP p) (h4 : ((bareL p).length : Int) + pwP p ≤ 19) :
    valV p = numV (valL (bareL p ++ List.replicate (pwP p).toNat 48)) p.below ∧ valE p = numE (valL (bareL p ++ List.replicate (pwP p).toNat 48)) := by
  have hb := bare_le p
  have hf := front_le p
  have he : zerosZ p = pwP p := by
    unfold zerosZ pwP
    unfold pwP at h3 h4
    rcases shift_pow p with e | ⟨e1, e2⟩ | ⟨e1, e2⟩
    · rw [e]; omega
    · omega
    · omega
  have hz : ¬ (zerosZ p < 0 ∨ 19 < ((bareL p).length : Int) + zerosZ p) := by rw [he]; omega
  have hs : sizeN p = valL (bareL p ++ List.replicate (pwP p).toNat 48) := by unfold sizeN; rw [he]
  exact ⟨by unfold valV; rw [if_neg hn, if_neg hz, hs], by unfold valE; rw [if_neg hn, if_neg hz, hs]⟩
/-- A row of figures as one of 19. -/
theorem valL_ahead (m : Nat) (l : List UInt8) : valL (List.replicate m 48 ++ l) = valL l := by
  induction m with
  | zero => rfl
  | succ m ih =>
    rw [List.replicate_succ, List.cons_append, valL_cons, ih]
    simp
/-- Rows of one length have the order of their numbers. -/
theorem less_val : ∀ (a b : List UInt8), Figs a → Figs b → a.length = b.length → Op.bytesLess a b = decide (valL a < valL b)
  | [], [], _, _, _ => by simp [Op.bytesLess]
  | [], _ :: _, _, _, h => by simp at h
  | _ :: _, [], _, _, h => by simp at h
  | x :: a, y :: b, ha, hb, h => by
    have hl : a.length = b.length := by simpa using h
    have fa : Figs a := fun c hc => ha c (by simp [hc])
    have fb : Figs b := fun c hc => hb c (by simp [hc])
    have ih := less_val a b fa fb hl
    have hx := fig_yes (ha x (by simp))
    have hy := fig_yes (hb y (by simp))
    have va := valL_lt a fa
    have vb := valL_lt b fb
    rw [valL_cons, valL_cons, hl]
    rw [hl] at va
    rw [Op.bytesLess, ih]
    generalize 10 ^ b.length = p at va vb
    rcases Nat.lt_trichotomy x.toNat y.toNat with h1 | h1 | h1
    · have h2 : (x.toNat - 48 + 1) * p ≤ (y.toNat - 48) * p := Nat.mul_le_mul_right _ (by omega)
      rw [Nat.add_mul] at h2
      have h3 : x < y := UInt8.lt_iff_toNat_lt.2 h1
      have h4 : (x.toNat - 48) * p + valL a < (y.toNat - 48) * p + valL b := by omega
      simp [h3, h4]
    · have : x = y := UInt8.toNat_inj.1 h1
      subst this
      simp
    · have h2 : (y.toNat - 48 + 1) * p ≤ (x.toNat - 48) * p := Nat.mul_le_mul_right _ (by omega)
      rw [Nat.add_mul] at h2
      have h3 : ¬ x < y := fun h => by have := UInt8.lt_iff_toNat_lt.1 h; omega
      have h5 : ¬ x = y := fun h => by rw [h] at h1; omega
      have h4 : ¬ (x.toNat - 48) * p + valL a < (y.toNat - 48) * p + valL b := by omega
      simp [h3, h4, h5]
theorem eq_val : ∀ (a b : List UInt8), Figs a → Figs b → a.length = b.length → valL a = valL b → a = b
  | [], [], _, _, _, _ => rfl
  | [], _ :: _, _, _, h, _ => by simp at h
  | _ :: _, [], _, _, h, _ => by simp at h
  | x :: a, y :: b, ha, hb, h, hv => by
    have hl : a.length = b.length := by simpa using h
    have fa : Figs a := fun c hc => ha c (by simp [hc])
    have fb : Figs b := fun c hc => hb c (by simp [hc])
    have hx := fig_yes (ha x (by simp))
    have hy := fig_yes (hb y (by simp))
    have va := valL_lt a fa
    have vb := valL_lt b fb
    rw [valL_cons, valL_cons, hl] at hv
    rw [hl] at va
    generalize 10 ^ b.length = p at va vb hv
    rcases Nat.lt_trichotomy x.toNat y.toNat with h1 | h1 | h1
    · have h2 : (x.toNat - 48 + 1) * p ≤ (y.toNat - 48) * p := Nat.mul_le_mul_right _ (by omega)
      rw [Nat.add_mul] at h2
      omega
    · have : x = y := UInt8.toNat_inj.1 h1
      subst this
      rw [eq_val a b fa fb hl (by omega)]
    · have h2 : (y.toNat - 48 + 1) * p ≤ (x.toNat - 48) * p := Nat.mul_le_mul_right _ (by omega)
      rw [Nat.add_mul] at h2
      omega
theorem valL_take (l : List UInt8) (k : Nat) : valL (l.take k) ≤ valL l := by
  have key : ∀ b a : List UInt8, valL a ≤ valL (a ++ b) := fun b => by
    refine snoc_induction (P := fun b => ∀ a, valL a ≤ valL (a ++ b)) (fun a => by simp) (fun b c ih a => ?_) b
    rw [← List.append_assoc, valL_snoc]
    have := ih a
    omega
  have := key (l.drop k) (l.take k)
  rwa [List.take_append_drop] at this
def maxL : List UInt8 := [57, 48, 48, 48, 48, 48, 48, 48, 48, 48, 48, 48, 48, 48, 48, 48, 48, 48, 48]
theorem max_val : valL maxL = 9000000000000000000 := by decide
theorem max_figs : Figs maxL := by unfold Figs maxL; decide
end Go.Proofs.YtoeddhkbifeamaaDoor
