/- word: a text's words, run by run: plain. -/
import Derived.Test.YtoghdllppecblaaDoorQPiece
import Derived.Test.YtoghdllppecblaaDoorQWordsM
namespace Go.Proofs.YtoghdllppecblaaDoor
open Go.RowKit
set_option linter.unusedVariables false
set_option linter.unusedSimpArgs false

open Lib (decodeN decodeL)
def rn (l : List UInt8) : Nat := (decodeL l).1
def wd (l : List UInt8) : Nat := (decodeL l).2
def hd (p : Nat) (l : List UInt8) : Sg := ⟨foldL (rn l), p, p + rlN (rn l)⟩
/-- The signs of a text that stands from place p on. -/
def sgF : Nat → Nat → List UInt8 → List Sg
  | 0, _, _ => []
  | f + 1, p, l => if l = [] then [] else hd p l :: sgF f (p + wd l) (l.drop (wd l))
def sg (p : Nat) (l : List UInt8) : List Sg := sgF l.length p l
theorem wd_pos (l : List UInt8) : 1 ≤ wd l := Lib.decodeL_width l
theorem wd_le {l : List UInt8} (h : l ≠ []) : wd l ≤ l.length := Lib.decodeL_le l h
theorem sgF_nil (p : Nat) : ∀ f, sgF f p [] = []
  | 0 => rfl
  | _ + 1 => by simp [sgF]
theorem sgF_fuel : ∀ (n m p : Nat) (l : List UInt8), l.length ≤ n → l.length ≤ m → sgF n p l = sgF m p l
  | 0, m, p, l, hn, _ => by
    have : l = [] := List.eq_nil_of_length_eq_zero (by omega)
    subst this
    rw [sgF_nil, sgF_nil]
  | n + 1, 0, p, l, _, hm => by
    have : l = [] := List.eq_nil_of_length_eq_zero (by omega)
    subst this
    rw [sgF_nil, sgF_nil]
  | n + 1, m + 1, p, l, hn, hm => by
    by_cases hne : l = []
    · subst hne
      rw [sgF_nil, sgF_nil]
    · have hw := wd_pos l
      have hl : 0 < l.length := List.length_pos_iff.2 hne
      simp only [sgF, if_neg hne]
      rw [sgF_fuel n m _ _ (by rw [List.length_drop]; omega) (by rw [List.length_drop]; omega)]
theorem sg_nil (p : Nat) : sg p [] = [] := rfl
theorem sg_cons {p : Nat} {l : List UInt8} (hne : l ≠ []) : sg p l = hd p l :: sg (p + wd l) (l.drop (wd l)) := by
  have hw := wd_pos l
  have hl : 0 < l.length := List.length_pos_iff.2 hne
  unfold sg
  obtain ⟨n, hn⟩ : ∃ n, l.length = n + 1 := ⟨l.length - 1, by omega⟩
  rw [hn]
  simp only [sgF, if_neg hne]
  rw [sgF_fuel n _ _ _ (by rw [List.length_drop]; omega) (Nat.le_refl _)]
theorem pos_sg (t : List UInt8) : ∀ f p, (posF t f p).map (sgnOf t) = sgF f p (t.drop p)
  | 0, p => rfl
  | f + 1, p => by
    by_cases h : p < t.length
    · have hne : t.drop p ≠ [] := by intro e; have := congrArg List.length e; simp at this; omega
      simp only [posF, sgF, if_pos h, if_neg hne, List.map_cons]
      rw [pos_sg t f, List.drop_drop]
      rfl
    · have he : t.drop p = [] := List.drop_eq_nil_of_le (by omega)
      simp only [posF, if_neg h, List.map_nil]
      rw [he, sgF_nil]
/-- The words of a row of signs; of a row behind a word that goes on. -/
def go : Option (Wd × Bool) → List Sg → List Wd
  | none, [] => []
  | some (w, _), [] => [w]
  | none, s :: r => if s.text = [] then go none r else go (some (⟨s.text, s.a, s.b⟩, false)) r
  | some (w, f), s :: r => if s.text = [] then w :: go none r else go (some (grownW w s f, cutB w s f)) r
theorem fold_go : ∀ l : List Sg, (∀ ws f, (l.foldl step (ws, false, f)).1 = ws ++ go none l) ∧ (∀ ws w f, (l.foldl step (ws ++ [w], true, f)).1 = ws ++ go (some (w, f)) l)
  | [] => ⟨fun ws f => by simp [go], fun ws w f => by simp [go]⟩
  | s :: r => by
    have ih := fold_go r
    refine ⟨fun ws f => ?_, fun ws w f => ?_⟩
    · rw [List.foldl_cons, go]
      by_cases h : s.text = []
      · rw [if_pos h, show step (ws, false, f) s = (ws, false, f) by unfold step; rw [if_pos h]]
        exact ih.1 ws f
      · rw [if_neg h, show step (ws, false, f) s = (ws ++ [⟨s.text, s.a, s.b⟩], true, false) by unfold step; rw [if_neg h, if_pos rfl]]
        exact ih.2 ws _ false
    · rw [List.foldl_cons, go]
      by_cases h : s.text = []
      · rw [if_pos h, show step (ws ++ [w], true, f) s = (ws ++ [w], false, f) by unfold step; rw [if_pos h]]
        rw [ih.1, List.append_assoc]
        rfl
      · rw [if_neg h, show step (ws ++ [w], true, f) s = (ws ++ [grownW w s f], true, cutB w s f) by
          unfold step
          rw [if_neg h, if_neg (by simp)]
          simp only [lastW_snoc, List.dropLast_concat]]
        exact ih.2 ws _ _
theorem words_go (t : List UInt8) : wordsP t = go none (sg 0 t) := by
  unfold wordsP runS posL
  have h := (fold_go ((posF t t.length 0).map (sgnOf t))).1 [] false
  rw [List.foldl_map, List.nil_append, pos_sg] at h
  rw [h]
  rfl
/-- Words stand where their text stands: the place at which it begins. -/
def movS (d : Nat) (s : Sg) : Sg := ⟨s.text, s.a + d, s.b + d⟩
def movW (d : Nat) (w : Wd) : Wd := ⟨w.text, w.a + d, w.b + d⟩
theorem sg_mov (d : Nat) : ∀ (n p : Nat) (l : List UInt8), l.length ≤ n → sg (p + d) l = (sg p l).map (movS d)
  | 0, p, l, h => by
    have : l = [] := List.eq_nil_of_length_eq_zero (by omega)
    subst this
    rfl
  | n + 1, p, l, h => by
    by_cases hne : l = []
    · subst hne; rfl
    · have hw := wd_pos l
      have hl : 0 < l.length := List.length_pos_iff.2 hne
      rw [sg_cons hne, sg_cons hne, List.map_cons]
      rw [show p + d + wd l = (p + wd l) + d by omega, sg_mov d n _ _ (by rw [List.length_drop]; omega)]
      congr 1
      unfold hd movS
      dsimp only
      congr 1
      omega
theorem grow_mov (d : Nat) (w : Wd) (s : Sg) (f : Bool) : grownW (movW d w) (movS d s) f = movW d (grownW w s f) ∧ cutB (movW d w) (movS d s) f = cutB w s f := ⟨rfl, rfl⟩
theorem go_mov (d : Nat) : ∀ l : List Sg, go none (l.map (movS d)) = (go none l).map (movW d) ∧ ∀ w f, go (some (movW d w, f)) (l.map (movS d)) = (go (some (w, f)) l).map (movW d)
  | [] => ⟨rfl, fun w f => rfl⟩
  | s :: r => by
    have ih := go_mov d r
    refine ⟨?_, fun w f => ?_⟩
    · rw [List.map_cons, go, go]
      by_cases h : s.text = []
      · rw [if_pos h, if_pos (show (movS d s).text = [] from h)]
        exact ih.1
      · rw [if_neg h, if_neg (show ¬ (movS d s).text = [] from h)]
        exact ih.2 ⟨s.text, s.a, s.b⟩ false
    · rw [List.map_cons, go, go]
      by_cases h : s.text = []
      · rw [if_pos h, if_pos (show (movS d s).text = [] from h), ih.1, List.map_cons]
      · rw [if_neg h, if_neg (show ¬ (movS d s).text = [] from h), (grow_mov d w s f).1, (grow_mov d w s f).2]
        exact ih.2 _ _
/-- A sign that becomes nothing parts the words. -/
theorem go_part (e : Sg) (he : e.text = []) (y : List Sg) : ∀ (x : List Sg) (st : Option (Wd × Bool)), go st (x ++ e :: y) = go st x ++ go none y
  | [], none => by simp [go, he]
  | [], some (w, f) => by simp [go, he]
  | s :: x, none => by
    rw [List.cons_append, go, go]
    split
    · exact go_part e he y x none
    · exact go_part e he y x _
  | s :: x, some (w, f) => by
    rw [List.cons_append, go, go]
    split
    · rw [go_part e he y x none]; rfl
    · exact go_part e he y x _
theorem sg_blank (t : List UInt8) : ∀ (n p : Nat) (l : List UInt8), l.length ≤ n → ∃ e, e.text = [] ∧ sg p (l ++ 32 :: t) = sg p l ++ e :: sg (p + l.length + 1) t := by
  intro n
  induction n with
  | zero =>
    intro p l h
    have : l = [] := List.eq_nil_of_length_eq_zero (by omega)
    subst this
    have hd1 : decodeL (32 :: t) = (32, 1) := by rw [Lib.decodeL_ascii 32 t (by decide)]; rfl
    refine ⟨hd p (32 :: t), ?_, ?_⟩
    · unfold hd rn
      rw [hd1]
      show foldL ((32 : Nat) : Int) = []
      decide +kernel
    · have e : wd (32 :: t) = 1 := by unfold wd; rw [hd1]
      rw [List.nil_append, sg_nil, List.nil_append, sg_cons (by simp), e]
      rfl
  | succ n ih =>
    intro p l h
    by_cases hne : l = []
    · subst hne
      have hd1 : decodeL (32 :: t) = (32, 1) := by rw [Lib.decodeL_ascii 32 t (by decide)]; rfl
      refine ⟨hd p (32 :: t), ?_, ?_⟩
      · unfold hd rn
        rw [hd1]
        show foldL ((32 : Nat) : Int) = []
        decide +kernel
      · have e : wd (32 :: t) = 1 := by unfold wd; rw [hd1]
        rw [List.nil_append, sg_nil, List.nil_append, sg_cons (by simp), e]
        rfl
    · have hdc : decodeL (l ++ 32 :: t) = decodeL l := dec_blank hne
      have hw := wd_pos l
      have hle := wd_le hne
      obtain ⟨e, he, hs⟩ := ih (p + wd l) (l.drop (wd l)) (by rw [List.length_drop]; omega)
      refine ⟨e, he, ?_⟩
      rw [sg_cons (by simp), sg_cons hne, List.cons_append]
      have e1 : hd p (l ++ 32 :: t) = hd p l := by unfold hd rn; rw [hdc]
      have e2 : wd (l ++ 32 :: t) = wd l := by unfold wd; rw [hdc]
      rw [e1, e2, List.drop_append_of_le_length hle, hs]
      rw [List.length_drop, show p + wd l + (l.length - wd l) + 1 = p + l.length + 1 by omega]
/-- Two texts with a blank between them have the words of both. -/
theorem words_join (a b : List UInt8) : wordsP (a ++ 32 :: b) = wordsP a ++ (wordsP b).map (movW (a.length + 1)) := by
  rw [words_go, words_go, words_go]
  obtain ⟨e, he, hs⟩ := sg_blank b a.length 0 a (Nat.le_refl _)
  rw [hs, go_part e he]
  congr 1
  rw [show 0 + a.length + 1 = 0 + (a.length + 1) by omega, sg_mov (a.length + 1) _ 0 b (Nat.le_refl _)]
  exact (go_mov _ _).1
end Go.Proofs.YtoghdllppecblaaDoor
