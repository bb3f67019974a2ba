/- What is set behind a whole number's text: plain words. -/
import Derived.Test.YtoeddhkbifeamaaDoorNBackM
namespace Go.Proofs.YtoeddhkbifeamaaDoor
open Go.RowKit

theorem val_congr (p p' : Pc) (hb : p.below = p'.below) (h1 : bareL p = bareL p') (h2 : bareL p ≠ [] → zerosZ p = zerosZ p') : valV p = valV p' ∧ valE p = valE p' := by
  by_cases h : bareL p = []
  · have h' : bareL p' = [] := h1 ▸ h
    exact ⟨(show valV p = 0 from if_pos h).trans (show valV p' = 0 from if_pos h').symm, (show valE p = 0 from if_pos h).trans (show valE p' = 0 from if_pos h').symm⟩
  · have hz := h2 h
    have hs : sizeN p = sizeN p' := by unfold sizeN; rw [h1, hz]
    unfold valV valE
    rw [← h1, ← hz, hs, hb]
    exact ⟨rfl, rfl⟩
theorem trimR_zero (l : List UInt8) : ∀ k, Lib.trimRightB (l ++ List.replicate k 48) 48 = Lib.trimRightB l 48
  | 0 => by simp
  | k + 1 => by
    rw [List.replicate_succ', ← List.append_assoc]
    rw [← trimR_zero l k]
    generalize l ++ List.replicate k 48 = m
    unfold Lib.trimRightB
    rw [List.reverse_append]
    simp
theorem trimL_zero (k : Nat) : ∀ l : List UInt8, Lib.trimLeftB (l ++ List.replicate k 48) 48 = if Lib.trimLeftB l 48 = [] then [] else Lib.trimLeftB l 48 ++ List.replicate k 48
  | [] => by
    have h0 : Lib.trimLeftB ([] : List UInt8) 48 = [] := rfl
    rw [List.nil_append, if_pos h0]
    unfold Lib.trimLeftB
    induction k with
    | zero => rfl
    | succ k ih => rw [List.replicate_succ, List.dropWhile_cons_of_pos (by simp)]; exact ih
  | c :: l => by
    by_cases hc : c = 48
    · subst hc
      have e : ∀ m : List UInt8, Lib.trimLeftB (48 :: m) 48 = Lib.trimLeftB m 48 := fun m => by unfold Lib.trimLeftB; rw [List.dropWhile_cons_of_pos (by simp)]
      rw [List.cons_append, e, e]
      exact trimL_zero k l
    · have e : ∀ m : List UInt8, Lib.trimLeftB (c :: m) 48 = c :: m := fun m => by unfold Lib.trimLeftB; rw [List.dropWhile_cons_of_neg (by simpa using hc)]
      rw [List.cons_append, e, e, if_neg (by simp)]
      rfl
/-- k more 0 behind the figures. -/
theorem val_zeros (p p' : Pc) (k : Nat) (hb : p.below = p'.below) (hl : p'.whole.data.toList ++ p'.rest.data.toList = (p.whole.data.toList ++ p.rest.data.toList) ++ List.replicate k 48) (hz : (k : Int) - p'.rest.size + powV p' = -(p.rest.size : Int) + powV p) :
    valV p = valV p' ∧ valE p = valE p' := by
  have hf : frontL p' = if frontL p = [] then [] else frontL p ++ List.replicate k 48 := by
    unfold frontL
    rw [hl, trimL_zero]
  have hbare : bareL p = bareL p' := by
    unfold bareL
    rw [hf]
    split
    · rename_i h; rw [h]
    · rw [trimR_zero]
  refine val_congr p p' hb hbare fun hn => ?_
  have hne : frontL p ≠ [] := fun e => hn (by unfold bareL; rw [e]; rfl)
  rw [if_neg hne] at hf
  have hlen : (frontL p').length = (frontL p).length + k := by rw [hf, List.length_append, List.length_replicate]
  unfold zerosZ
  rw [← hbare, hlen]
  omega
/-- A text with no point and no exponent is a whole number's. -/
theorem shape_of (s : ByteArray) (h : (cutP s).length = s.size) (h0 : s.size ≠ 0) (hno : ∀ c ∈ s.data.toList, c ≠ 101 ∧ c ≠ 69 ∧ c ≠ 46) : ∃ P D, s.data.toList = P ++ D ∧ Sign P ∧ Whole D := by
  have hsign : ∀ i (S : List UInt8), (∀ c ∈ S, c = 101 ∨ c = 69 ∨ c = 46) → signAt s i S = false := by
    intro i S hS
    unfold signAt
    cases hc : s.data.toList[i]? with
    | none => rfl
    | some c =>
      have h1 := hno c (List.mem_of_getElem? hc)
      show S.contains c = false
      rw [← Bool.not_eq_true]
      intro h2
      have h3 := hS c (by simpa using h2)
      rcases h3 with rfl | rfl | rfl
      · exact h1.1 rfl
      · exact h1.2.1 rfl
      · exact h1.2.2 rfl
  have hd : ∀ b wh i, cutDot s b wh i = ⟨b, wh, ⟨#[]⟩, false, ⟨#[]⟩, i⟩ := fun b wh i => by
    rw [dot_none (hsign i _ (by simp)), tail_none (hsign i _ (by simp))]
  have hsz : s.data.toList.length = s.size := by simp
  obtain ⟨P, hP, hPs, hPl⟩ : ∃ P, Sign P ∧ s.data.toList = P ++ s.data.toList.drop P.length ∧ tookI s 0 [45] = P.length := by
    by_cases hs : signAt s 0 [45] = true
    · refine ⟨[45], .inl rfl, ?_, by unfold tookI; rw [if_pos hs]; rfl⟩
      unfold signAt at hs
      cases hl : s.data.toList with
      | nil => rw [hl] at hs; cases hs
      | cons c l =>
        rw [hl] at hs
        have : c = 45 := by simpa using hs
        rw [this]
        rfl
    · exact ⟨[], .inr rfl, rfl, by unfold tookI; rw [if_neg hs]; rfl⟩
  obtain ⟨D, hD⟩ : ∃ D, D = s.data.toList.drop P.length := ⟨_, rfl⟩
  rw [← hD] at hPs
  refine ⟨P, D, hPs, hP, ?_⟩
  have hlenD : P.length + D.length = s.size := by rw [← hsz, hPs, List.length_append]
  unfold cutP at h
  rw [hPl] at h
  have hs48 := sign_of hPs rfl [48]
  have hrun : runAt s P.length = runL D := run_of hPs rfl
  by_cases hz : signAt s P.length [48] = true
  · rw [if_pos hz, hd] at h
    have hl1 : D.length = 1 := by
      have : P.length + 1 = s.size := h
      omega
    cases D with
    | nil => cases hl1
    | cons c l =>
      have hl : l = [] := List.eq_nil_of_length_eq_zero (by simpa using hl1)
      subst hl
      rw [hs48] at hz
      have : c = 48 := by simpa [headIn] using hz
      subst this
      exact ⟨figs_zeros 1, by simp, fun c m e _ => by injection e with _ e2; exact e2.symm⟩
  · rw [if_neg hz] at h
    by_cases hr : runAt s P.length = 0
    · rw [if_pos hr] at h
      exact absurd h.symm h0
    · rw [if_neg hr, hd] at h
      have hl : runL D = D.length := by
        have : P.length + runAt s P.length = s.size := h
        omega
      refine ⟨fun c hc => ?_, fun e => hr (by rw [hrun, e]; rfl), fun c m e hc => ?_⟩
      · obtain ⟨j, hj, rfl⟩ := List.getElem_of_mem hc
        exact runL_fig D j (by omega)
      · rw [hs48, e, hc] at hz
        exact absurd rfl hz
def parse2 (s : ByteArray) : Int × Int := (parseV s, parseE s)
theorem parse_of (s : ByteArray) (p : Pc) (h : cutP s = p) (hl : p.length = s.size) (h0 : s.size ≠ 0) (hs : s.size ≤ 65536) : parse2 s = (valV p, valE p) := by
  unfold parse2 parseV parseE
  rw [h, hl, if_neg (by omega), if_neg (by omega), if_neg (by omega), if_neg (by omega)]
section
variable {P D : List UInt8} (hP : Sign P) (hD : Whole D) (hl : P.length + D.length ≤ 300)
include hP hD hl
omit hP hl in
theorem pos_of : P.length + D.length ≠ 0 := by
  have : D.length ≠ 0 := fun e => hD.ne (List.eq_nil_of_length_eq_zero e)
  omega
theorem shift_plain (s : ByteArray) (h : s.data.toList = P ++ D) : parse2 s = (valV ⟨signB P, ⟨D.toArray⟩, ⟨#[]⟩, false, ⟨#[]⟩, P.length + D.length⟩, valE ⟨signB P, ⟨D.toArray⟩, ⟨#[]⟩, false, ⟨#[]⟩, P.length + D.length⟩) := by
  have hn := pos_of (P := P) hD
  have hlen : s.size = P.length + D.length := by rw [← List.length_append, ← h]; simp
  have hend : ∀ S, signAt s (P.length + D.length) S = false := fun S => hlen ▸ signAt_end s S
  have hc := cut_whole (R := []) (by rw [List.append_nil]; exact h) hP hD noFig_nil
  rw [dot_none (hend _), tail_none (hend _)] at hc
  exact parse_of s _ hc hlen.symm (by omega) (by omega)
theorem shift_e0 (s : ByteArray) (h : s.data.toList = P ++ D ++ [101, 48]) (n : Nat) : parse2 s = (valV ⟨signB P, ⟨D.toArray⟩, ⟨#[]⟩, false, ⟨#[]⟩, n⟩, valE ⟨signB P, ⟨D.toArray⟩, ⟨#[]⟩, false, ⟨#[]⟩, n⟩) := by
  have hlen : s.size = P.length + D.length + 2 := by
    have : s.size = s.data.toList.length := by simp
    rw [this, h]; simp; omega
  have h1 : s.data.toList = P ++ (D ++ [101, 48]) := by rw [h, List.append_assoc]
  have hnf : NoFig [101, 48] := fun c m e => by injection e with e1 _; rw [← e1]; decide
  have hc := cut_whole h1 hP hD hnf
  have hi : P.length + D.length = (P ++ D).length := by simp
  have h2 : s.data.toList = (P ++ D ++ [101]) ++ [48] := by rw [h]; simp
  have hi2 : P.length + D.length + 1 = (P ++ D ++ [101]).length := by simp; omega
  have s1 : signAt s (P.length + D.length) [46] = false := by rw [sign_of h hi]; rfl
  have s2 : signAt s (P.length + D.length) [101, 69] = true := by rw [sign_of h hi]; rfl
  have s3 : signAt s (P.length + D.length + 1) [45] = false := by rw [sign_of h2 hi2]; rfl
  have s4 : signAt s (P.length + D.length + 1) [43] = false := by rw [sign_of h2 hi2]; rfl
  have hx : expI s (P.length + D.length) = P.length + D.length + 1 := by
    unfold expI tookI
    rw [s3, if_neg (by simp), s4, if_neg (by simp)]
  have hr : runAt s (P.length + D.length + 1) = 1 := by rw [run_of h2 hi2]; rfl
  have he := extract_of h2 hi2 1
  have hct : cutP s = ⟨signB P, ⟨D.toArray⟩, ⟨#[]⟩, false, ⟨#[48]⟩, P.length + D.length + 2⟩ := by
    rw [hc, dot_none s1]
    unfold cutTail
    rw [if_pos s2, hx, hr, if_neg (by omega), s3, he]
    rfl
  rw [parse_of s _ hct hlen.symm (by omega) (by omega)]
  have := val_congr ⟨signB P, ⟨D.toArray⟩, ⟨#[]⟩, false, ⟨#[48]⟩, P.length + D.length + 2⟩ ⟨signB P, ⟨D.toArray⟩, ⟨#[]⟩, false, ⟨#[]⟩, n⟩ rfl rfl (fun _ => rfl)
  rw [this.1, this.2]
theorem shift_00 (s : ByteArray) (h : s.data.toList = P ++ D ++ [46, 48, 48]) (n : Nat) : parse2 s = (valV ⟨signB P, ⟨D.toArray⟩, ⟨#[]⟩, false, ⟨#[]⟩, n⟩, valE ⟨signB P, ⟨D.toArray⟩, ⟨#[]⟩, false, ⟨#[]⟩, n⟩) := by
  have hlen : s.size = P.length + D.length + 3 := by
    have : s.size = s.data.toList.length := by simp
    rw [this, h]; simp; omega
  have h1 : s.data.toList = P ++ (D ++ [46, 48, 48]) := by rw [h, List.append_assoc]
  have hnf : NoFig [46, 48, 48] := fun c m e => by injection e with e1 _; rw [← e1]; decide
  have hc := cut_whole h1 hP hD hnf
  have h3 : s.data.toList = (P ++ D) ++ (46 :: ([48, 48] ++ [])) := h
  have hdot := dot_some (b := signB P) (wh := ⟨D.toArray⟩) h3 (figs_zeros 2) (by simp) noFig_nil
  rw [List.length_append] at hdot
  rw [hdot, tail_none (by show signAt s (P.length + D.length + 1 + 2) _ = false; rw [show P.length + D.length + 1 + 2 = s.size by omega]; exact signAt_end s _)] at hc
  rw [parse_of s _ hc (by show P.length + D.length + 1 + 2 = _; omega) (by omega) (by omega)]
  have := val_zeros ⟨signB P, ⟨D.toArray⟩, ⟨#[]⟩, false, ⟨#[]⟩, n⟩ ⟨signB P, ⟨D.toArray⟩, ⟨[48, 48].toArray⟩, false, ⟨#[]⟩, P.length + D.length + 1 + 2⟩ 2 rfl (by simp [List.replicate]) rfl
  rw [this.1, this.2]
  rfl
theorem shift_0e (hz : ∀ m, D ≠ 48 :: m) (s : ByteArray) (h : s.data.toList = P ++ D ++ [48, 69, 45, 49]) (n : Nat) : parse2 s = (valV ⟨signB P, ⟨D.toArray⟩, ⟨#[]⟩, false, ⟨#[]⟩, n⟩, valE ⟨signB P, ⟨D.toArray⟩, ⟨#[]⟩, false, ⟨#[]⟩, n⟩) := by
  have hlen : s.size = P.length + D.length + 4 := by
    have : s.size = s.data.toList.length := by simp
    rw [this, h]; simp; omega
  obtain ⟨E, hE⟩ : ∃ E, E = D ++ [48] := ⟨_, rfl⟩
  have hEw : Whole E := by
    rw [hE]
    refine ⟨hD.figs.append (figs_zeros 1), by simp, fun c m e hc => ?_⟩
    cases hd : D with
    | nil => exact absurd hd hD.ne
    | cons d l =>
      rw [hd] at e
      injection e with e1 _
      exact absurd (by rw [hd, e1, hc]) (hz l)
  have hEl : E.length = D.length + 1 := by rw [hE]; simp
  have h1 : s.data.toList = P ++ (E ++ [69, 45, 49]) := by rw [h, hE]; simp
  have hnf : NoFig [69, 45, 49] := fun c m e => by injection e with e1 _; rw [← e1]; decide
  have hc := cut_whole h1 hP hEw hnf
  have hA : s.data.toList = (P ++ E) ++ [69, 45, 49] := by rw [h1, List.append_assoc]
  have hi : P.length + E.length = (P ++ E).length := by simp
  have h2 : s.data.toList = (P ++ E ++ [69]) ++ [45, 49] := by rw [hA]; simp
  have hi2 : P.length + E.length + 1 = (P ++ E ++ [69]).length := by simp; omega
  have h3 : s.data.toList = (P ++ E ++ [69, 45]) ++ [49] := by rw [hA]; simp
  have hi3 : P.length + E.length + 2 = (P ++ E ++ [69, 45]).length := by simp; omega
  have s1 : signAt s (P.length + E.length) [46] = false := by rw [sign_of hA hi]; rfl
  have s2 : signAt s (P.length + E.length) [101, 69] = true := by rw [sign_of hA hi]; rfl
  have s3 : signAt s (P.length + E.length + 1) [45] = true := by rw [sign_of h2 hi2]; rfl
  have hx : expI s (P.length + E.length) = P.length + E.length + 2 := by
    unfold expI
    rw [s3, if_pos rfl]
  have hr : runAt s (P.length + E.length + 2) = 1 := by rw [run_of h3 hi3]; rfl
  have he := extract_of h3 hi3 1
  have hct : cutP s = ⟨signB P, ⟨E.toArray⟩, ⟨#[]⟩, true, ⟨#[49]⟩, P.length + E.length + 3⟩ := by
    rw [hc, dot_none s1]
    unfold cutTail
    rw [if_pos s2, hx, hr, if_neg (by omega), s3, he]
    rfl
  rw [parse_of s _ hct (by show P.length + E.length + 3 = _; omega) (by omega) (by omega)]
  have := val_zeros ⟨signB P, ⟨D.toArray⟩, ⟨#[]⟩, false, ⟨#[]⟩, n⟩ ⟨signB P, ⟨E.toArray⟩, ⟨#[]⟩, true, ⟨#[49]⟩, P.length + E.length + 3⟩ 1 rfl (by rw [hE]; simp [List.replicate]) rfl
  rw [this.1, this.2]
end
end Go.Proofs.YtoeddhkbifeamaaDoor
