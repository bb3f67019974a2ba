/- stem: what follows of stems: not longer, not empty, the first letter; an s behind a word: plain. -/
import Derived.Test.YtoainljghfldlaaSPlain
namespace Go.Proofs.Ytoainljghfldlaa
open Go.RowKit
set_option linter.unusedVariables false
set_option linter.unusedSimpArgs false

theorem suf_take {t e : List UInt8} (h : sufB t e = true) : t.take (t.length - e.length) ++ e = t := by
  unfold sufB at h
  simp only [Bool.and_eq_true, decide_eq_true_eq, beq_iff_eq] at h
  have h2 := List.take_append_drop (t.length - e.length) t
  rw [h.2] at h2
  exact h2
theorem suf_len {t e : List UInt8} (h : sufB t e = true) : e.length ≤ t.length := by
  unfold sufB at h
  simp only [Bool.and_eq_true, decide_eq_true_eq] at h
  exact h.1
theorem suf_of_app (a e : List UInt8) : sufB (a ++ e) e = true := by
  unfold sufB
  simp
theorem trim_app {t e : List UInt8} (h : sufB t e = true) : trimL t e ++ e = t := by unfold trimL; rw [if_pos h]; exact suf_take h
theorem trim_le (t e : List UInt8) : (trimL t e).length ≤ t.length := by
  unfold trimL
  split
  · rw [List.length_take]; omega
  · exact Nat.le_refl _
theorem pick_some (t : List UInt8) (rs : List EndR) (r : EndR) (h : pickL t rs = some r) : r ∈ rs ∧ sufB t r.fr = true ∧ 0 < r.fr.length := by
  have : ∀ (rs : List EndR) (o : Option EndR) (P : EndR → Prop), (∀ x, o = some x → P x) → (∀ x ∈ rs, sufB t x.fr = true → 0 < x.fr.length → P x) → ∀ x, rs.foldl (pickS t) o = some x → P x := by
    intro rs
    induction rs with
    | nil => intro o P h1 _ x hx; exact h1 x hx
    | cons y rs ih =>
      intro o P h1 h2 x hx
      refine ih _ P (fun z hz => ?_) (fun z hz => h2 z (List.mem_cons_of_mem _ hz)) x hx
      unfold pickS at hz
      split at hz
      · rename_i hc
        simp only [Bool.and_eq_true, decide_eq_true_eq] at hc
        cases hz
        exact h2 y (List.mem_cons_self) hc.2 (by omega)
      · exact h1 z hz
  exact this rs none (fun r => r ∈ rs ∧ sufB t r.fr = true ∧ 0 < r.fr.length) (fun x hx => by cases hx) (fun x hx h1 h2 => ⟨hx, h1, h2⟩) r h
theorem turn_yes {t : List UInt8} {rs : List EndR} (h : (turnL t rs).2 = true) : ∃ r, r ∈ rs ∧ sufB t r.fr = true ∧ 0 < r.fr.length ∧ r.ask.sem (trimL t r.fr) = true ∧ (turnL t rs).1 = trimL t r.fr ++ r.to := by
  unfold turnL at h ⊢
  cases hp : pickL t rs with
  | none => rw [hp] at h; cases h
  | some r =>
    rw [hp] at h
    obtain ⟨h1, h2, h3⟩ := pick_some t rs r hp
    unfold turnO at h ⊢
    dsimp only at h ⊢
    by_cases hs : r.ask.sem (trimL t r.fr) = true
    · refine ⟨r, h1, h2, h3, hs, ?_⟩
      rw [if_pos hs]
    · rw [if_neg hs] at h
      cases h
theorem turn_no {t : List UInt8} {rs : List EndR} (h : (turnL t rs).2 = false) : (turnL t rs).1 = t := by
  unfold turnL at h ⊢
  cases hp : pickL t rs with
  | none => rfl
  | some r =>
    rw [hp] at h
    unfold turnO at h ⊢
    dsimp only at h ⊢
    by_cases hs : r.ask.sem (trimL t r.fr) = true
    · rw [if_pos hs] at h; cases h
    · rw [if_neg hs]
def ShortR (rs : List EndR) : Bool := rs.all fun r => decide (r.to.length ≤ r.fr.length)
theorem turn_len {t : List UInt8} {rs : List EndR} (hr : ShortR rs = true) : (turnL t rs).1.length ≤ t.length := by
  cases h : (turnL t rs).2 with
  | false => rw [turn_no h]; exact Nat.le_refl _
  | true =>
    obtain ⟨r, h1, h2, _, _, h5⟩ := turn_yes h
    have h6 := congrArg List.length (trim_app h2)
    have h7 := List.all_eq_true.1 hr r h1
    rw [h5]
    simp only [List.length_append, decide_eq_true_eq] at h6 h7 ⊢
    omega
/-- Not empty, and the same first letter. -/
def Hd (s t : List UInt8) : Prop := s ≠ [] ∧ s.head? = t.head?
theorem Hd.trans {a b c : List UInt8} (h : Hd a b) (k : Hd b c) : Hd a c := ⟨h.1, h.2.trans k.2⟩
theorem Hd.refl {a : List UInt8} (h : a ≠ []) : Hd a a := ⟨h, rfl⟩
theorem Hd.pre {a x y : List UInt8} (h : a ≠ []) : Hd (a ++ x) (a ++ y) := by
  cases a with
  | nil => exact absurd rfl h
  | cons b a => exact ⟨by simp, rfl⟩
theorem Hd.take {t : List UInt8} {k : Nat} (h : t ≠ []) (hk : 0 < k) : Hd (t.take k) t := by
  cases t with
  | nil => exact absurd rfl h
  | cons b a => cases k with
    | zero => omega
    | succ k => exact ⟨by simp, rfl⟩
def notAlw : Ask → Bool
  | .always => false
  | _ => true
theorem sem_nil (a : Ask) (h : notAlw a = true) : a.sem [] = false := by
  cases a with
  | always => cases h
  | above m => show decide (m < 0) = false; simp
  | voiced => rfl
  | behind => rfl
  | cvc => rfl
theorem turn_hd {t : List UInt8} {rs : List EndR} (hr : (rs.all fun r => notAlw r.ask) = true) (ht : t ≠ []) : Hd (turnL t rs).1 t := by
  cases h : (turnL t rs).2 with
  | false => rw [turn_no h]; exact Hd.refl ht
  | true =>
    obtain ⟨r, h1, h2, _, h4, h5⟩ := turn_yes h
    rw [h5]
    have hne : trimL t r.fr ≠ [] := fun e => by
      rw [e, sem_nil _ (List.all_eq_true.1 hr r h1)] at h4
      cases h4
    have := Hd.pre (x := r.to) (y := r.fr) hne
    rw [trim_app h2] at this
    exact this
theorem s1a_len (t : List UInt8) : (s1aL t).length ≤ t.length := turn_len (by decide)
theorem s1c_len (t : List UInt8) : (s1cL t).length ≤ t.length := turn_len (by decide)
theorem s2_len (t : List UInt8) : (s2L t).length ≤ t.length := turn_len (by decide)
theorem s3_len (t : List UInt8) : (s3L t).length ≤ t.length := turn_len (by decide)
theorem s4_len (t : List UInt8) : (s4L t).length ≤ t.length := turn_len (by decide)
theorem s5a_len (t : List UInt8) : (s5aL t).length ≤ t.length := turn_len (by decide)
theorem mend_len (t : List UInt8) : (mendL t).length ≤ t.length + 1 := by
  unfold mendL
  repeat' split
  all_goals simp
  all_goals omega
theorem s1b_len (t : List UInt8) : (s1bL t).length ≤ t.length := by
  unfold s1bL
  split
  · exact turn_len (by decide)
  · rename_i h
    simp only [Bool.or_eq_true, Bool.not_eq_true', not_or, Bool.not_eq_false] at h
    obtain ⟨ha, hb⟩ := h
    obtain ⟨r, h1, h2, h3, h4, h5⟩ := turn_yes ha
    have h6 := congrArg List.length (trim_app h2)
    have h7 := mend_len (turnL t r1b).1
    rw [h5] at h7 ⊢
    have h8 : r.to.length + 2 ≤ r.fr.length := by
      have : ∀ r ∈ r1b, r.fr = [101, 101, 100] ∨ r.to.length + 2 ≤ r.fr.length := by decide +kernel
      rcases this r h1 with e | e
      · rw [e] at h2; exact absurd h2 hb
      · exact e
    simp only [List.length_append] at h6 h7 ⊢
    omega
theorem s5b_len (t : List UInt8) : (s5bL t).length ≤ t.length := by
  unfold s5bL
  split
  · rw [List.length_take]; omega
  · exact Nat.le_refl _
theorem step_len (k : Nat) (t : List UInt8) : (stepL k t).length ≤ t.length := by
  unfold stepL
  split
  · exact s1a_len t
  · exact s1b_len t
  · exact s1c_len t
  · exact s2_len t
  · exact s3_len t
  · exact s4_len t
  · exact s5a_len t
  · exact s5b_len t
  · exact Nat.le_refl _
theorem run_len (k : Nat) (t : List UInt8) : (runL k t).length ≤ t.length := by
  induction k with
  | zero => exact Nat.le_refl _
  | succ k ih => exact Nat.le_trans (step_len k _) ih
theorem s1a_hd {t : List UInt8} (ht : 2 ≤ t.length) : Hd (s1aL t) t := by
  have ht0 : t ≠ [] := fun e => by rw [e] at ht; simp at ht
  unfold s1aL
  cases h : (turnL t r1a).2 with
  | false => rw [turn_no h]; exact Hd.refl ht0
  | true =>
    obtain ⟨r, h1, h2, _, h4, h5⟩ := turn_yes h
    rw [h5]
    have hap := trim_app h2
    by_cases hne : trimL t r.fr = []
    · rw [hne] at hap ⊢
      have hap' : r.fr = t := hap
      rw [List.nil_append]
      have : ∀ r ∈ r1a, r.fr.length ≤ 1 ∨ (r.to ≠ [] ∧ r.to.head? = r.fr.head?) := by decide
      rcases this r h1 with e | e
      · rw [hap'] at e; omega
      · rw [hap'] at e; exact e
    · have := Hd.pre (x := r.to) (y := r.fr) hne
      rw [hap] at this
      exact this
theorem mend_hd {t : List UInt8} (ht : t ≠ []) : Hd (mendL t) t := by
  have ha : Hd (t ++ [101]) t := by have := Hd.pre (x := [101]) (y := []) ht; rwa [List.append_nil] at this
  unfold mendL
  split
  · exact ha
  · split
    · rename_i h
      split
      · exact Hd.refl ht
      · refine Hd.take ht ?_
        unfold alikeL at h
        simp only [Bool.and_eq_true, decide_eq_true_eq] at h
        omega
    · split
      · exact ha
      · exact Hd.refl ht
theorem s1b_hd {t : List UInt8} (ht : t ≠ []) : Hd (s1bL t) t := by
  have h1 := turn_hd (t := t) (rs := r1b) (by decide) ht
  unfold s1bL
  split
  · exact h1
  · exact (mend_hd h1.1).trans h1
theorem s5b_hd {t : List UInt8} (ht : t ≠ []) : Hd (s5bL t) t := by
  unfold s5bL
  split
  · rename_i h
    simp only [Bool.and_eq_true, decide_eq_true_eq] at h
    have := suf_len h.2
    simp at this
    exact Hd.take ht (by omega)
  · exact Hd.refl ht
theorem step_hd {k : Nat} {t : List UInt8} (hk : 1 ≤ k) (ht : t ≠ []) : Hd (stepL k t) t := by
  unfold stepL
  split
  · omega
  · exact s1b_hd ht
  · exact turn_hd (by decide) ht
  · exact turn_hd (by decide) ht
  · exact turn_hd (by decide) ht
  · exact turn_hd (by decide) ht
  · exact turn_hd (by decide) ht
  · exact s5b_hd ht
  · exact Hd.refl ht
theorem run_hd (k : Nat) {t : List UInt8} (ht : 2 ≤ t.length) : Hd (runL (k + 1) t) t := by
  induction k with
  | zero => exact s1a_hd ht
  | succ k ih => exact (step_hd (k := k + 1) (by omega) ih.1).trans ih
theorem stem_hd {t : List UInt8} (h : mayB t = true) : Hd (stemL t) t ∧ (stemL t).length ≤ t.length := by
  unfold stemL
  rw [if_pos h]
  unfold mayB at h
  simp only [Bool.and_eq_true, decide_eq_true_eq] at h
  exact ⟨run_hd 7 (by omega), run_len 8 t⟩

/-- An s behind a word that ends in no s, and makes no ies or sses: step 1a takes it away. -/
theorem pick_snoc (t : List UInt8) (rs : List EndR) (x : EndR) : pickL t (rs ++ [x]) = pickS t (pickL t rs) x := by unfold pickL; rw [List.foldl_append]; rfl
theorem s1a_four (t : List UInt8) : s1aL t =
    if sufB t [115, 115, 101, 115] = true then trimL t [115, 115, 101, 115] ++ [115, 115]
    else if sufB t [105, 101, 115] = true then trimL t [105, 101, 115] ++ [105]
    else if sufB t [115, 115] = true then trimL t [115, 115] ++ [115, 115]
    else if sufB t [115] = true then trimL t [115] else t := by
  unfold s1aL turnL pickL r1a
  simp only [List.foldl_cons, List.foldl_nil]
  cases h1 : sufB t [115, 115, 101, 115] <;> cases h2 : sufB t [105, 101, 115] <;> cases h3 : sufB t [115, 115] <;> cases h4 : sufB t [115] <;>
    simp [pickS, lenO, h1, h2, h3, h4, turnO, Ask.sem]
theorem suf_iff {t e : List UInt8} : sufB t e = true ↔ ∃ a, t = a ++ e := ⟨fun h => ⟨_, (suf_take h).symm⟩, fun ⟨a, h⟩ => by rw [h]; exact suf_of_app a e⟩
theorem snoc_inj {a b : List UInt8} {x y : UInt8} (h : a ++ [x] = b ++ [y]) : a = b ∧ x = y := by
  have := List.append_inj' h rfl
  exact ⟨this.1, by simpa using this.2⟩
theorem suf_snoc (t e : List UInt8) (x : UInt8) : sufB (t ++ [x]) (e ++ [x]) = sufB t e := by
  rw [Bool.eq_iff_iff, suf_iff, suf_iff]
  constructor
  · rintro ⟨a, h⟩
    rw [← List.append_assoc] at h
    exact ⟨a, (snoc_inj h).1⟩
  · rintro ⟨a, h⟩
    exact ⟨a, by rw [h, List.append_assoc]⟩
theorem suf_less {t e : List UInt8} (x : UInt8) (h : sufB t (e ++ [x]) = true) : sufB t [x] = true := by
  obtain ⟨a, h⟩ := suf_iff.1 h
  exact suf_iff.2 ⟨a ++ e, by rw [h, List.append_assoc]⟩
theorem s1a_plural {t : List UInt8} (h1 : sufB t [115] = false) (h2 : sufB t [105, 101] = false) (h3 : sufB t [115, 115, 101] = false) : s1aL (t ++ [115]) = s1aL t := by
  rw [s1a_four, s1a_four]
  have e1 : sufB (t ++ [115]) [115, 115, 101, 115] = false := (suf_snoc t [115, 115, 101] 115).trans h3
  have e2 : sufB (t ++ [115]) [105, 101, 115] = false := (suf_snoc t [105, 101] 115).trans h2
  have e3 : sufB (t ++ [115]) [115, 115] = false := (suf_snoc t [115] 115).trans h1
  have e4 : sufB (t ++ [115]) [115] = true := suf_of_app t [115]
  have k1 : sufB t [115, 115, 101, 115] = false := by
    cases h : sufB t [115, 115, 101, 115] with
    | false => rfl
    | true => rw [suf_less (e := [115, 115, 101]) 115 h] at h1; cases h1
  have k2 : sufB t [105, 101, 115] = false := by
    cases h : sufB t [105, 101, 115] with
    | false => rfl
    | true => rw [suf_less (e := [105, 101]) 115 h] at h1; cases h1
  have k3 : sufB t [115, 115] = false := by
    cases h : sufB t [115, 115] with
    | false => rfl
    | true => rw [suf_less (e := [115]) 115 h] at h1; cases h1
  simp only [e1, e2, e3, e4, k1, k2, k3, h1]
  have := trim_app e4
  simp
  exact (snoc_inj this).1
theorem stem_plural {t : List UInt8} (hm : mayB t = true) (h1 : sufB t [115] = false) (h2 : sufB t [105, 101] = false) (h3 : sufB t [115, 115, 101] = false) : stemL (t ++ [115]) = stemL t := by
  have hm' : mayB (t ++ [115]) = true := by
    unfold mayB at hm ⊢
    simp only [Bool.and_eq_true, decide_eq_true_eq, List.all_append, List.length_append] at hm ⊢
    exact ⟨⟨hm.1, by decide⟩, by simp; omega⟩
  unfold stemL
  rw [if_pos hm, if_pos hm']
  have h := s1a_plural h1 h2 h3
  have : ∀ k, runL (k + 1) (t ++ [115]) = runL (k + 1) t := by
    intro k
    induction k with
    | zero => exact h
    | succ k ih => show stepL (k + 1) _ = stepL (k + 1) _; rw [ih]
  exact this 7
theorem ex_1 : stemL [99, 97, 114, 101, 115, 115, 101, 115] = [99, 97, 114, 101, 115, 115] := by decide +kernel
theorem ex_2 : stemL [112, 111, 110, 105, 101, 115] = [112, 111, 110, 105] := by decide +kernel
theorem ex_3 : stemL [104, 111, 112, 112, 105, 110, 103] = [104, 111, 112] := by decide +kernel
theorem ex_4 : stemL [102, 105, 108, 105, 110, 103] = [102, 105, 108, 101] := by decide +kernel
theorem ex_5 : stemL [114, 101, 108, 97, 116, 105, 111, 110, 97, 108] = [114, 101, 108, 97, 116] := by decide +kernel
theorem ex_6 : stemL [103, 101, 110, 101, 114, 97, 108, 105, 122, 97, 116, 105, 111, 110, 115] = [103, 101, 110, 101, 114] := by decide +kernel
theorem ex_7 : stemL [104, 97, 112, 112, 121] = [104, 97, 112, 112, 105] := by decide +kernel
theorem ex_8 : measL [116, 114, 111, 117, 98, 108, 101] = 1 := by decide +kernel
theorem ex_9 : measL [111, 97, 116, 101, 110] = 2 := by decide +kernel
end Go.Proofs.Ytoainljghfldlaa
