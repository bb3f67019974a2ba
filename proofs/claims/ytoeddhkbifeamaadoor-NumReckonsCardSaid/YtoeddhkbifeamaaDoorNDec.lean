/- Numerals: plain words. -/
import Derived.Test.YtoeddhkbifeamaaDoorNVal
import Derived.Lib.ItoaNum
namespace Go.Proofs.YtoeddhkbifeamaaDoor
open Go.RowKit

theorem dec_small {u : Nat} (h : u < 10) : Lib.decDigits u = [UInt8.ofNat (48 + u)] := Lib.decDigits_one h
theorem dec_big {u : Nat} (h : 10 ≤ u) : Lib.decDigits u = Lib.decDigits (u / 10) ++ [UInt8.ofNat (48 + u % 10)] := by
  rw [Lib.decDigits, dif_neg (by omega)]
theorem digit_nat {d : Nat} (h : d < 10) : (UInt8.ofNat (48 + d)).toNat = 48 + d := by
  rw [UInt8.toNat_ofNat']
  omega
theorem dec_val (u : Nat) : valL (Lib.decDigits u) = u := by
  induction u using Nat.strongRecOn with
  | _ u ih =>
    by_cases h : u < 10
    · rw [dec_small h]
      show 10 * 0 + ((UInt8.ofNat (48 + u)).toNat - 48) = u
      rw [digit_nat h]
      omega
    · rw [dec_big (by omega), valL_snoc, ih (u / 10) (by omega), digit_nat (by omega)]
      omega
theorem dec_figs (u : Nat) : Figs (Lib.decDigits u) := by
  have one : ∀ d, d < 10 → fig (UInt8.ofNat (48 + d)) = true := fun d h => by
    unfold fig
    rw [digit_nat h]
    exact decide_eq_true (by omega)
  induction u using Nat.strongRecOn with
  | _ u ih =>
    by_cases h : u < 10
    · rw [dec_small h]
      intro c hc
      rw [List.mem_singleton.1 hc]
      exact one u h
    · rw [dec_big (by omega)]
      refine (ih (u / 10) (by omega)).append fun c hc => ?_
      rw [List.mem_singleton.1 hc]
      exact one _ (by omega)
theorem dec_ne (u : Nat) : Lib.decDigits u ≠ [] := by
  by_cases h : u < 10
  · rw [dec_small h]; simp
  · rw [dec_big (by omega)]; simp
/-- The first figure is 0 for 0 alone. -/
theorem dec_head (u : Nat) : ∀ c l, Lib.decDigits u = c :: l → (c = 48 → u = 0 ∧ l = []) := by
  induction u using Nat.strongRecOn with
  | _ u ih =>
    intro c l e hc
    by_cases h : u < 10
    · rw [dec_small h] at e
      injection e with e1 e2
      have := congrArg UInt8.toNat (e1.trans hc)
      rw [digit_nat h] at this
      have h48 : (48 : UInt8).toNat = 48 := rfl
      exact ⟨by omega, e2.symm⟩
    · rw [dec_big (by omega)] at e
      cases hd : Lib.decDigits (u / 10) with
      | nil => exact absurd hd (dec_ne _)
      | cons x m =>
        rw [hd] at e
        injection e with e1 e2
        have := (ih (u / 10) (by omega) x m hd (e1.trans hc)).1
        omega
/-- Without 0 ahead, without 0 behind. -/
theorem valL_cons (c : UInt8) (l : List UInt8) : valL (c :: l) = (c.toNat - 48) * 10 ^ l.length + valL l := by
  refine snoc_induction (P := fun l => valL (c :: l) = (c.toNat - 48) * 10 ^ l.length + valL l) ?_ (fun l d ih => ?_) l
  · simp [valL]
  · show valL (c :: (l ++ [d])) = (c.toNat - 48) * 10 ^ (l ++ [d]).length + valL (l ++ [d])
    rw [show c :: (l ++ [d]) = (c :: l) ++ [d] from rfl, valL_snoc, valL_snoc, ih, List.length_append, List.length_singleton, Nat.pow_succ]
    have e : (c.toNat - 48) * (10 ^ l.length * 10) = (c.toNat - 48) * 10 ^ l.length * 10 := (Nat.mul_assoc _ _ _).symm
    rw [e]
    omega
theorem valL_front (l : List UInt8) : valL (Lib.trimLeftB l 48) = valL l := by
  unfold Lib.trimLeftB
  induction l with
  | nil => rfl
  | cons c l ih =>
    by_cases h : c = 48
    · subst h
      rw [List.dropWhile_cons_of_pos (by simp), ih, valL_cons]
      simp
    · rw [List.dropWhile_cons_of_neg (by simpa using h)]
theorem valL_zeros (l : List UInt8) (k : Nat) : valL (l ++ List.replicate k 48) = valL l * 10 ^ k := by
  induction k with
  | zero => simp
  | succ k ih =>
    rw [List.replicate_succ', ← List.append_assoc, valL_snoc, ih, Nat.pow_succ]
    have h : (48 : UInt8).toNat = 48 := rfl
    have e : valL l * (10 ^ k * 10) = valL l * 10 ^ k * 10 := (Nat.mul_assoc _ _ _).symm
    rw [e, h]
    omega
theorem trimR_back (l : List UInt8) : l = Lib.trimRightB l 48 ++ List.replicate (l.length - (Lib.trimRightB l 48).length) 48 := by
  unfold Lib.trimRightB
  have key : ∀ r : List UInt8, r = List.replicate (r.length - (r.dropWhile (· == (48 : UInt8))).length) 48 ++ r.dropWhile (· == (48 : UInt8)) := by
    intro r
    induction r with
    | nil => rfl
    | cons c r ih =>
      by_cases h : c = 48
      · subst h
        rw [List.dropWhile_cons_of_pos (by simp)]
        have hle : (r.dropWhile (· == (48 : UInt8))).length ≤ r.length := (List.dropWhile_sublist _).length_le
        rw [List.length_cons, show r.length + 1 - (r.dropWhile (· == (48 : UInt8))).length = (r.length - (r.dropWhile (· == (48 : UInt8))).length) + 1 by omega, List.replicate_succ, List.cons_append, ← ih]
      · rw [List.dropWhile_cons_of_neg (by simpa using h)]
        simp
  have := congrArg List.reverse (key l.reverse)
  rw [List.reverse_reverse, List.reverse_append, List.reverse_replicate] at this
  simpa using this
theorem front_head (l : List UInt8) (c : UInt8) (m : List UInt8) (h : Lib.trimLeftB l 48 = c :: m) : c ≠ 48 := by
  unfold Lib.trimLeftB at h
  induction l with
  | nil => cases h
  | cons x l ih =>
    by_cases hx : x = 48
    · subst hx
      rw [List.dropWhile_cons_of_pos (by simp)] at h
      exact ih h
    · rw [List.dropWhile_cons_of_neg (by simpa using hx)] at h
      injection h with h1 h2
      exact h1 ▸ hx
theorem valL_ge (c : UInt8) (l : List UInt8) (hf : fig c = true) (h : c ≠ 48) : 10 ^ l.length ≤ valL (c :: l) := by
  have h1 := fig_yes hf
  have h2 : c.toNat ≠ 48 := fun e => h (by rw [← UInt8.toNat_inj]; exact e)
  rw [valL_cons]
  have : 1 * 10 ^ l.length ≤ (c.toNat - 48) * 10 ^ l.length := Nat.mul_le_mul_right _ (by omega)
  omega
end Go.Proofs.YtoeddhkbifeamaaDoor
