/- word: what follows of a text's words: each stands where its signs do, alone it is itself, and so is its text. Plain. -/
import Derived.Test.YtoghdllppecblaaDoorQGo
namespace Go.Proofs.YtoghdllppecblaaDoor
open Go.RowKit
set_option linter.unusedVariables false
set_option linter.unusedSimpArgs false

open Lib (decodeN decodeL)
/-- How many bytes of a text belong to the word that begins it. -/
def runF : Nat → List UInt8 → Nat
  | 0, _ => 0
  | f + 1, l => if l = [] then 0 else if foldL (rn l) = [] then 0 else wd l + runF f (l.drop (wd l))
def runK (l : List UInt8) : Nat := runF l.length l
theorem runF_nil : ∀ f, runF f [] = 0
  | 0 => rfl
  | _ + 1 => by simp [runF]
theorem runF_fuel : ∀ (n m : Nat) (l : List UInt8), l.length ≤ n → l.length ≤ m → runF n l = runF m l
  | 0, m, l, hn, _ => by
    have : l = [] := List.eq_nil_of_length_eq_zero (by omega)
    subst this
    rw [runF_nil, runF_nil]
  | n + 1, 0, l, _, hm => by
    have : l = [] := List.eq_nil_of_length_eq_zero (by omega)
    subst this
    rw [runF_nil, runF_nil]
  | n + 1, m + 1, l, hn, hm => by
    by_cases hne : l = []
    · subst hne
      rw [runF_nil, runF_nil]
    · have hw := wd_pos l
      have hl : 0 < l.length := List.length_pos_iff.2 hne
      simp only [runF, if_neg hne]
      rw [runF_fuel n m _ (by rw [List.length_drop]; omega) (by rw [List.length_drop]; omega)]
theorem runK_none {l : List UInt8} (h : foldL (rn l) = []) : runK l = 0 := by
  unfold runK
  cases hl : l.length with
  | zero => rfl
  | succ n => simp [runF, h]
theorem runK_more {l : List UInt8} (hne : l ≠ []) (h : foldL (rn l) ≠ []) : runK l = wd l + runK (l.drop (wd l)) := by
  have hw := wd_pos l
  have hl : 0 < l.length := List.length_pos_iff.2 hne
  unfold runK
  obtain ⟨n, hn⟩ : ∃ n, l.length = n + 1 := ⟨l.length - 1, by omega⟩
  rw [hn]
  simp only [runF, if_neg hne, if_neg h]
  rw [runF_fuel n _ _ (by rw [List.length_drop]; omega) (Nat.le_refl _)]
theorem not_bad {l : List UInt8} (h : foldL (rn l) ≠ []) : ¬ decodeL l = (65533, 1) := by
  intro e
  apply h
  unfold rn
  rw [e]
  exact fold_err
theorem rl_wd {l : List UInt8} (h : foldL (rn l) ≠ []) : rlN (rn l) = wd l := by
  have hr : (decodeL l).1 ≠ 65533 := fun e => h (by unfold rn; rw [e]; exact fold_err)
  have h1 := Lib.runeLen_decode l hr
  have h2 : (decodeL l).1 < 55296 ∨ (57343 < (decodeL l).1 ∧ (decodeL l).1 ≤ 1114111) := by
    rw [Lib.decodeL_N]
    rcases Lib.decodeN_shape l.length (l.getD 0 0).toNat (l.getD 1 0).toNat (l.getD 2 0).toNat (l.getD 3 0).toNat with ⟨c, e⟩ | ⟨d1, d2, d3, cv, e⟩ | ⟨d1, d2, d3, d4, cv, cs, e⟩ | ⟨d1, d2, d3, d4, d5, cv, cw, e⟩ | e
    all_goals (rw [e]; dsimp only; omega)
  unfold Lib.runeLen at h1
  unfold rlN rn wd
  generalize (decodeL l).1 = c at *
  generalize (decodeL l).2 = k at *
  repeat' split at h1
  all_goals (repeat' split)
  all_goals omega
/-- All signs become something. -/
def Full (L : List UInt8) : Prop := ∀ p, ∀ s ∈ sg p L, s.text ≠ []
theorem run_split : ∀ (n : Nat) (l : List UInt8), l.length ≤ n → runK l ≤ l.length ∧ Full (l.take (runK l)) ∧ (∀ p, sg p l = sg p (l.take (runK l)) ++ sg (p + runK l) (l.drop (runK l))) ∧ (l.drop (runK l) = [] ∨ foldL (rn (l.drop (runK l))) = []) := by
  intro n
  induction n with
  | zero =>
    intro l h
    have : l = [] := List.eq_nil_of_length_eq_zero (by omega)
    subst this
    exact ⟨Nat.le_refl _, fun p s hs => (by cases hs), fun p => rfl, .inl rfl⟩
  | succ n ih =>
    intro l h
    by_cases hne : l = []
    · subst hne
      exact ⟨Nat.le_refl _, fun p s hs => (by cases hs), fun p => rfl, .inl rfl⟩
    · by_cases hf : foldL (rn l) = []
      · rw [runK_none hf]
        refine ⟨Nat.zero_le _, fun p s hs => ?_, fun p => ?_, .inr ?_⟩
        · rw [List.take_zero] at hs; cases hs
        · rw [List.take_zero, List.drop_zero]; rfl
        · rw [List.drop_zero]; exact hf
      · have hw := wd_pos l
        have hle := wd_le hne
        obtain ⟨i1, i2, i3, i4⟩ := ih (l.drop (wd l)) (by rw [List.length_drop]; omega)
        rw [List.length_drop] at i1
        obtain ⟨k, hk⟩ : ∃ k, k = runK (l.drop (wd l)) := ⟨_, rfl⟩
        rw [← hk] at i1 i2 i3 i4
        rw [runK_more hne hf, ← hk]
        have hdt : decodeL (l.take (wd l + k)) = decodeL l := dec_take hne (not_bad hf) (by show wd l ≤ wd l + k; omega)
        have htn : l.take (wd l + k) ≠ [] := take_ne hne (by omega)
        have e1 : ∀ p, hd p (l.take (wd l + k)) = hd p l := fun p => by unfold hd rn; rw [hdt]
        have e2 : wd (l.take (wd l + k)) = wd l := congrArg Prod.snd hdt
        have e3 : (l.take (wd l + k)).drop (wd l) = (l.drop (wd l)).take k := by rw [List.drop_take]; congr 1; omega
        refine ⟨by omega, fun p s hs => ?_, fun p => ?_, ?_⟩
        · rw [sg_cons htn, e1, e2, e3] at hs
          rcases List.mem_cons.1 hs with rfl | hs
          · exact hf
          · exact i2 _ s hs
        · rw [sg_cons hne, sg_cons htn, e1, e2, e3, i3, List.cons_append, List.drop_drop, Nat.add_assoc]
        · rw [List.drop_drop] at i4
          exact i4
/-- A word that goes on. -/
def grow : Wd × Bool → List Sg → Wd × Bool
  | w, [] => w
  | (w, f), s :: r => grow (grownW w s f, cutB w s f) r
theorem go_run : ∀ (X : List Sg) (w : Wd) (f : Bool) (rest : List Sg), (∀ s ∈ X, s.text ≠ []) → (rest = [] ∨ ∃ e r, rest = e :: r ∧ e.text = []) → go (some (w, f)) (X ++ rest) = (grow (w, f) X).1 :: go none rest
  | [], w, f, rest, _, hr => by
    rcases hr with rfl | ⟨e, r, rfl, he⟩
    · rfl
    · simp [go, grow, he]
  | s :: X, w, f, rest, hX, hr => by
    rw [List.cons_append, go, if_neg (hX s (by simp)), go_run X _ _ rest (fun s hs => hX s (by simp [hs])) hr]
    rfl
/-- What is true of a word's text. -/
def Nice (T : List UInt8) : Prop := T ≠ [] ∧ T.length ≤ 32 ∧ Pcs T
theorem grow_nice : ∀ (X : List Sg) (w : Wd) (f : Bool), (∀ s ∈ X, Pcs s.text) → Nice w.text → Nice (grow (w, f) X).1.text
  | [], w, f, _, h => h
  | s :: X, w, f, hX, h => by
    refine grow_nice X _ _ (fun s hs => hX s (by simp [hs])) ?_
    unfold grownW cutB
    dsimp only
    split
    · exact h
    · rename_i hc
      simp at hc
      obtain ⟨h1, h2, h3⟩ := h
      exact ⟨by simp [h1], by rw [List.length_append]; omega, h3.app (hX s (by simp))⟩
theorem grow_ab : ∀ (n p : Nat) (L : List UInt8) (w : Wd) (f : Bool), L.length ≤ n → Full L → w.b = p → (grow (w, f) (sg p L)).1.a = w.a ∧ (grow (w, f) (sg p L)).1.b = p + L.length := by
  intro n
  induction n with
  | zero =>
    intro p L w f h hF hb
    have : L = [] := List.eq_nil_of_length_eq_zero (by omega)
    subst this
    exact ⟨rfl, hb⟩
  | succ n ih =>
    intro p L w f h hF hb
    by_cases hne : L = []
    · subst hne; exact ⟨rfl, hb⟩
    · have hw := wd_pos L
      have hle := wd_le hne
      have hf : foldL (rn L) ≠ [] := by
        have := hF p (hd p L) (by rw [sg_cons hne]; simp)
        exact this
      have hF2 : Full (L.drop (wd L)) := by
        intro q s hs
        -- the signs behind the first one, from another place
        have h2 := hF q
        rw [sg_cons hne] at h2
        have h3 : sg (q + wd L) (L.drop (wd L)) = (sg q (L.drop (wd L))).map (movS (wd L)) := sg_mov _ _ _ _ (Nat.le_refl _)
        rw [h3] at h2
        exact h2 (movS (wd L) s) (by simp; exact .inr ⟨s, hs, rfl⟩)
      rw [sg_cons hne, grow]
      obtain ⟨h1, h2⟩ := ih (p + wd L) (L.drop (wd L)) (grownW w (hd p L) f) (cutB w (hd p L) f) (by rw [List.length_drop]; omega) hF2 (by show p + rlN (rn L) = p + wd L; rw [rl_wd hf])
      refine ⟨h1, ?_⟩
      rw [h2, List.length_drop]
      omega
theorem sg_pcs : ∀ (n p : Nat) (L : List UInt8), L.length ≤ n → ∀ s ∈ sg p L, Pcs s.text := by
  intro n
  induction n with
  | zero =>
    intro p L h s hs
    have : L = [] := List.eq_nil_of_length_eq_zero (by omega)
    subst this
    cases hs
  | succ n ih =>
    intro p L h s hs
    by_cases hne : L = []
    · subst hne; cases hs
    · have hw := wd_pos L
      rw [sg_cons hne] at hs
      rcases List.mem_cons.1 hs with rfl | hs
      · exact fold_pcs _
      · exact ih _ _ (by rw [List.length_drop]; have := List.length_pos_iff.2 hne; omega) s hs
/-- A text all of whose signs become something is one word. -/
theorem one_word {L : List UInt8} (hne : L ≠ []) (hF : Full L) : ∃ T, Nice T ∧ ∀ p rest, (rest = [] ∨ ∃ e r, rest = e :: r ∧ e.text = []) → go none (sg p L ++ rest) = ⟨T, p, p + L.length⟩ :: go none rest := by
  have hw := wd_pos L
  have hle := wd_le hne
  have hf : foldL (rn L) ≠ [] := hF 0 (hd 0 L) (by rw [sg_cons hne]; simp)
  have key : ∀ p rest, (rest = [] ∨ ∃ e r, rest = e :: r ∧ e.text = []) → go none (sg p L ++ rest) = (grow (⟨foldL (rn L), p, p + wd L⟩, false) (sg (p + wd L) (L.drop (wd L)))).1 :: go none rest := by
    intro p rest hr
    have hX := hF p
    rw [sg_cons hne] at hX ⊢
    rw [List.cons_append, go, if_neg (show (hd p L).text ≠ [] from hf)]
    have := go_run (sg (p + wd L) (L.drop (wd L))) ⟨(hd p L).text, (hd p L).a, (hd p L).b⟩ false rest (fun s hs => hX s (by simp [hs])) hr
    rw [this]
    unfold hd
    dsimp only
    rw [rl_wd hf]
  have hF2 : Full (L.drop (wd L)) := by
    intro q s hs
    have h2 := hF q
    rw [sg_cons hne] at h2
    have h3 : sg (q + wd L) (L.drop (wd L)) = (sg q (L.drop (wd L))).map (movS (wd L)) := sg_mov _ _ _ _ (Nat.le_refl _)
    rw [h3] at h2
    exact h2 (movS (wd L) s) (by simp; exact .inr ⟨s, hs, rfl⟩)
  refine ⟨(grow (⟨foldL (rn L), 0, 0 + wd L⟩, false) (sg (0 + wd L) (L.drop (wd L)))).1.text, ?_, fun p rest hr => ?_⟩
  · refine grow_nice _ _ _ (sg_pcs _ _ _ (Nat.le_refl _)) ⟨hf, ?_, fold_pcs _⟩
    have := fold_len (rn L : Int)
    show (foldL (rn L)).length ≤ 32
    omega
  · rw [key p rest hr]
    congr 1
    obtain ⟨h1, h2⟩ := grow_ab _ (p + wd L) (L.drop (wd L)) ⟨foldL (rn L), p, p + wd L⟩ false (Nat.le_refl _) hF2 rfl
    have h3 : (grow (⟨foldL (rn L), p, p + wd L⟩, false) (sg (p + wd L) (L.drop (wd L)))).1.text = (grow (⟨foldL (rn L), 0, 0 + wd L⟩, false) (sg (0 + wd L) (L.drop (wd L)))).1.text := by
      have e : ∀ (X : List Sg) (w : Wd) (f : Bool), (grow (movW p w, f) (X.map (movS p))).1.text = (grow (w, f) X).1.text := by
        intro X
        induction X with
        | nil => intro w f; rfl
        | cons s X ih =>
          intro w f
          rw [List.map_cons, grow, grow, (grow_mov p w s f).1, (grow_mov p w s f).2]
          exact ih _ _
      have := e (sg (0 + wd L) (L.drop (wd L))) ⟨foldL (rn L), 0, 0 + wd L⟩ false
      rw [← this, ← sg_mov p _ _ _ (Nat.le_refl _)]
      unfold movW
      dsimp only
      rw [show 0 + p = p by omega, show 0 + wd L + p = p + wd L by omega]
    rw [← h3]
    generalize (grow (⟨foldL (rn L), p, p + wd L⟩, false) (sg (p + wd L) (L.drop (wd L)))).1 = W at h1 h2
    cases W
    dsimp only at h1 h2 ⊢
    subst h1 h2
    congr 1
    rw [List.length_drop]
    omega
end Go.Proofs.YtoghdllppecblaaDoor
