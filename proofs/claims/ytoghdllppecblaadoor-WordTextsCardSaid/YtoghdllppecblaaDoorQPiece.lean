/- word: what a sign becomes is read again as it is: plain. -/
import Derived.Test.YtoghdllppecblaaDoorQDec
import Derived.Test.YtoghdllppecblaaDoorQLeaf
namespace Go.Proofs.YtoghdllppecblaaDoor
open Go.RowKit
set_option linter.unusedVariables false
set_option linter.unusedSimpArgs false

open Lib (decodeN decodeL)
/-- Bytes that are one sign, which becomes itself. -/
def Piece (f : List UInt8) : Prop := f ≠ [] ∧ ∃ c : Nat, foldL c = f ∧ rlN c = f.length ∧ ∀ t, decodeL (f ++ t) = (c, f.length)
theorem valid_B2 (c : Int) : Utf8.valid c = validB c := by rw [validRune_eq]; unfold validRune validB; by_cases h1 : 0 ≤ c ∧ c < 55296 <;> by_cases h2 : 57343 < c ∧ c ≤ 1114111 <;> simp [h1, h2]
theorem encL_1 {c : Int} (hv : validB c = true) (h : c.toNat < 128) : encL c = [UInt8.ofNat c.toNat] := by
  unfold encL Utf8.encode
  rw [valid_B2, hv]
  simp [h]
theorem encL_2 {c : Int} (hv : validB c = true) (h0 : ¬ c.toNat < 128) (h : c.toNat < 2048) : encL c = [UInt8.ofNat (192 + c.toNat / 64), UInt8.ofNat (128 + c.toNat % 64)] := by
  unfold encL Utf8.encode
  rw [valid_B2, hv]
  simp [h0, h]
theorem encL_3 {c : Int} (hv : validB c = true) (h0 : ¬ c.toNat < 2048) (h : c.toNat < 65536) : encL c = [UInt8.ofNat (224 + c.toNat / 4096), UInt8.ofNat (128 + c.toNat / 64 % 64), UInt8.ofNat (128 + c.toNat % 64)] := by
  unfold encL Utf8.encode
  rw [valid_B2, hv]
  have h1 : ¬ c.toNat < 128 := by omega
  simp [h0, h, h1]
theorem encL_4 {c : Int} (hv : validB c = true) (h : ¬ c.toNat < 65536) : encL c = [UInt8.ofNat (240 + c.toNat / 262144), UInt8.ofNat (128 + c.toNat / 4096 % 64), UInt8.ofNat (128 + c.toNat / 64 % 64), UInt8.ofNat (128 + c.toNat % 64)] := by
  unfold encL Utf8.encode
  rw [valid_B2, hv]
  have h1 : ¬ c.toNat < 128 := by omega
  have h2 : ¬ c.toNat < 2048 := by omega
  simp [h, h1, h2]
theorem ofNat_lt {n : Nat} (h : n < 256) : (UInt8.ofNat n).toNat = n := by simp; omega
theorem valid_nat {c : Nat} (hv : validB (c : Int) = true) : c < 55296 ∨ (57343 < c ∧ c ≤ 1114111) := by
  unfold validB at hv
  rw [Bool.or_eq_true, decide_eq_true_eq, decide_eq_true_eq] at hv
  omega
/-- A sign's own bytes are read as the sign. -/
theorem dec_enc {c : Nat} (hv : validB (c : Int) = true) : rlN c = (encL c).length ∧ ∀ t, decodeL (encL c ++ t) = (c, (encL c).length) := by
  have hb := valid_nat hv
  by_cases h1 : c < 128
  · have e := encL_1 hv (by simpa using h1)
    rw [Int.toNat_natCast] at e
    refine ⟨by rw [e]; unfold rlN; rw [if_pos (by omega)]; rfl, fun t => ?_⟩
    rw [e, Lib.decodeL_N]
    have e0 : (([UInt8.ofNat c] ++ t).getD 0 0).toNat = c := by simp; omega
    rw [e0, dN1 h1]
    rfl
  · by_cases h2 : c < 2048
    · have e := encL_2 hv (by simpa using h1) (by simpa using h2)
      rw [Int.toNat_natCast] at e
      refine ⟨by rw [e]; unfold rlN; rw [if_neg (by omega), if_pos (by omega)]; rfl, fun t => ?_⟩
      rw [e, Lib.decodeL_N]
      have e0 : (([UInt8.ofNat (192 + c / 64), UInt8.ofNat (128 + c % 64)] ++ t).getD 0 0).toNat = 192 + c / 64 := by simp; omega
      have e1 : (([UInt8.ofNat (192 + c / 64), UInt8.ofNat (128 + c % 64)] ++ t).getD 1 0).toNat = 128 + c % 64 := by simp; omega
      rw [e0, e1, dN2 (by omega) (by simp) (by omega) (by omega)]
      show ((192 + c / 64) % 32 * 64 + (128 + c % 64) % 64, 2) = (c, 2)
      rw [show (192 + c / 64) % 32 * 64 + (128 + c % 64) % 64 = c by omega]
    · by_cases h3 : c < 65536
      · have e := encL_3 hv (by simpa using h2) (by simpa using h3)
        rw [Int.toNat_natCast] at e
        refine ⟨by rw [e]; unfold rlN; rw [if_neg (by omega), if_neg (by omega), if_pos (by omega)]; rfl, fun t => ?_⟩
        rw [e, Lib.decodeL_N]
        have e0 : (([UInt8.ofNat (224 + c / 4096), UInt8.ofNat (128 + c / 64 % 64), UInt8.ofNat (128 + c % 64)] ++ t).getD 0 0).toNat = 224 + c / 4096 := by simp; omega
        have e1 : (([UInt8.ofNat (224 + c / 4096), UInt8.ofNat (128 + c / 64 % 64), UInt8.ofNat (128 + c % 64)] ++ t).getD 1 0).toNat = 128 + c / 64 % 64 := by simp; omega
        have e2 : (([UInt8.ofNat (224 + c / 4096), UInt8.ofNat (128 + c / 64 % 64), UInt8.ofNat (128 + c % 64)] ++ t).getD 2 0).toNat = 128 + c % 64 := by simp; omega
        rw [e0, e1, e2, dN3 (by omega) (by simp) (by omega) (by omega) (by omega) (by omega)]
        show ((224 + c / 4096) % 16 * 4096 + (128 + c / 64 % 64) % 64 * 64 + (128 + c % 64) % 64, 3) = (c, 3)
        rw [show (224 + c / 4096) % 16 * 4096 + (128 + c / 64 % 64) % 64 * 64 + (128 + c % 64) % 64 = c by omega]
      · have e := encL_4 hv (by simpa using h3)
        rw [Int.toNat_natCast] at e
        refine ⟨by rw [e]; unfold rlN; rw [if_neg (by omega), if_neg (by omega), if_neg (by omega)]; rfl, fun t => ?_⟩
        rw [e, Lib.decodeL_N]
        have e0 : (([UInt8.ofNat (240 + c / 262144), UInt8.ofNat (128 + c / 4096 % 64), UInt8.ofNat (128 + c / 64 % 64), UInt8.ofNat (128 + c % 64)] ++ t).getD 0 0).toNat = 240 + c / 262144 := by simp; omega
        have e1 : (([UInt8.ofNat (240 + c / 262144), UInt8.ofNat (128 + c / 4096 % 64), UInt8.ofNat (128 + c / 64 % 64), UInt8.ofNat (128 + c % 64)] ++ t).getD 1 0).toNat = 128 + c / 4096 % 64 := by simp; omega
        have e2 : (([UInt8.ofNat (240 + c / 262144), UInt8.ofNat (128 + c / 4096 % 64), UInt8.ofNat (128 + c / 64 % 64), UInt8.ofNat (128 + c % 64)] ++ t).getD 2 0).toNat = 128 + c / 64 % 64 := by simp; omega
        have e3 : (([UInt8.ofNat (240 + c / 262144), UInt8.ofNat (128 + c / 4096 % 64), UInt8.ofNat (128 + c / 64 % 64), UInt8.ofNat (128 + c % 64)] ++ t).getD 3 0).toNat = 128 + c % 64 := by simp; omega
        rw [e0, e1, e2, e3, dN4 (by omega) (by simp) (by omega) (by omega) (by omega) (by omega) (by omega)]
        show ((240 + c / 262144) % 8 * 262144 + (128 + c / 4096 % 64) % 64 * 4096 + (128 + c / 64 % 64) % 64 * 64 + (128 + c % 64) % 64, 4) = (c, 4)
        rw [show (240 + c / 262144) % 8 * 262144 + (128 + c / 4096 % 64) % 64 * 4096 + (128 + c / 64 % 64) % 64 * 64 + (128 + c % 64) % 64 = c by omega]
theorem enc_ne (c : Int) : encL c ≠ [] := by
  intro e
  have := (encL_len c).1
  rw [e] at this
  simp at this
theorem low_valid {c : Int} (h : isLow c = true) : 48 ≤ c ∧ c ≤ 122 := by
  unfold isLow at h
  simp at h
  omega
theorem fold_low {c : Int} (h : isLow c = true) : foldL c = encL c := by unfold foldL; rw [if_pos h]
theorem valid_small {c : Int} (h0 : 0 ≤ c) (h1 : c < 55296) : validB c = true := vb_1 h0 h1
/-- a to z and 0 to 9 are such. -/
theorem piece_low {c : Nat} (h : isLow (c : Int) = true) : Piece (encL c) := by
  have hl := low_valid h
  have hd := dec_enc (c := c) (valid_small (by omega) (by omega))
  exact ⟨enc_ne _, c, fold_low h, hd.1, hd.2⟩
/-- A row of such. -/
def Pcs (l : List UInt8) : Prop := ∃ fs : List (List UInt8), l = fs.flatten ∧ ∀ f ∈ fs, Piece f
theorem Pcs.nil : Pcs [] := ⟨[], rfl, fun f h => (by cases h)⟩
theorem Pcs.one {f : List UInt8} (h : Piece f) : Pcs f := ⟨[f], by simp, fun g hg => by rw [List.mem_singleton.1 hg]; exact h⟩
theorem Pcs.app {a b : List UInt8} (ha : Pcs a) (hb : Pcs b) : Pcs (a ++ b) := by
  obtain ⟨fs, rfl, h1⟩ := ha
  obtain ⟨gs, rfl, h2⟩ := hb
  exact ⟨fs ++ gs, by simp, fun f hf => by
    rcases List.mem_append.1 hf with h | h
    · exact h1 f h
    · exact h2 f h⟩
theorem piece_byte {b : UInt8} (h : isLow (b.toNat : Int) = true) : Piece [b] := by
  have hp := piece_low h
  have hl := low_valid h
  rw [encL_1 (valid_small (by omega) (by omega)) (by simp; omega)] at hp
  simpa using hp
theorem pcs_bytes : ∀ (l : List UInt8), (∀ b ∈ l, isLow (b.toNat : Int) = true) → Pcs l
  | [], _ => Pcs.nil
  | b :: l, h => by
    have := (Pcs.one (piece_byte (h b (by simp)))).app (pcs_bytes l fun c hc => h c (by simp [hc]))
    simpa using this
theorem look_pcs (c : Int) : Pcs (lookL c) := by
  apply pcs_bytes
  unfold lookL
  split
  · rename_i r h
    have hm := List.mem_of_find?_eq_some h
    have : ∀ r ∈ tabL, ∀ b ∈ r.2.2, isLow (b.toNat : Int) = true := by decide
    exact this r hm
  · intro b hb; cases hb
/-- What any sign becomes is a row of such. -/
theorem fold_pcs (c : Nat) : Pcs (foldL c) := by
  by_cases h1 : isLow (c : Int) = true
  · rw [fold_low h1]
    exact Pcs.one (piece_low h1)
  · by_cases h2 : (decide (65 ≤ (c : Int)) && decide ((c : Int) ≤ 90)) = true
    · have hb : 65 ≤ (c : Int) ∧ (c : Int) ≤ 90 := by simpa using h2
      have e : foldL c = encL ((c + 32 : Nat) : Int) := by
        unfold foldL
        rw [if_neg h1, if_pos h2]
        congr 1
        omega
      rw [e]
      refine Pcs.one (piece_low ?_)
      unfold isLow
      simp
      omega
    · by_cases h3 : (decide (224 ≤ (c : Int)) && decide ((c : Int) ≤ 254)) = true
      · have e : foldL c = lookL ((c : Int) - 32) := by unfold foldL; rw [if_neg h1, if_neg h2, if_pos h3]
        rw [e]
        exact look_pcs _
      · by_cases h4 : (c : Int) < 384
        · have e : foldL c = lookL c := by unfold foldL; rw [if_neg h1, if_neg h2, if_neg h3, if_pos h4]
          rw [e]
          exact look_pcs _
        · by_cases h5 : nilB c = true
          · have e : foldL c = [] := by unfold foldL; rw [if_neg h1, if_neg h2, if_neg h3, if_neg h4, if_pos h5]
            rw [e]
            exact Pcs.nil
          · have e : foldL c = encL c := by unfold foldL; rw [if_neg h1, if_neg h2, if_neg h3, if_neg h4, if_neg h5]
            have hv : validB c = true := by
              unfold nilB at h5
              cases hv : validB c
              · rw [hv] at h5; simp at h5
              · rfl
            have hd := dec_enc hv
            rw [e]
            exact Pcs.one ⟨enc_ne _, c, e, hd.1, hd.2⟩
end Go.Proofs.YtoghdllppecblaaDoor
