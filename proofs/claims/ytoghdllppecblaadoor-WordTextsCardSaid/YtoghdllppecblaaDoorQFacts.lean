/- word: what each word of a text is. Plain. -/
import Derived.Test.YtoghdllppecblaaDoorQRun
namespace Go.Proofs.YtoghdllppecblaaDoor
open Go.RowKit
set_option linter.unusedVariables false
set_option linter.unusedSimpArgs false

open Lib (decodeN decodeL)
/-- A word of a text that stands from place p on: where it stands, what its text is, that cut out it is itself. -/
def OkW (p : Nat) (l : List UInt8) (w : Wd) : Prop :=
  p ≤ w.a ∧ w.a < w.b ∧ w.b ≤ p + l.length ∧ Nice w.text ∧ go none (sg 0 ((l.drop (w.a - p)).take (w.b - w.a))) = [⟨w.text, 0, w.b - w.a⟩]
theorem okW_drop {p k : Nat} {l : List UInt8} {w : Wd} (hk : k ≤ l.length) (h : OkW (p + k) (l.drop k) w) : OkW p l w := by
  obtain ⟨h1, h2, h3, h4, h5⟩ := h
  rw [List.length_drop] at h3
  refine ⟨by omega, h2, by omega, h4, ?_⟩
  rw [List.drop_drop, show k + (w.a - (p + k)) = w.a - p by omega] at h5
  exact h5
theorem rest_part {p : Nat} {l : List UInt8} (h : l = [] ∨ foldL (rn l) = []) : sg p l = [] ∨ ∃ e r, sg p l = e :: r ∧ e.text = [] := by
  rcases h with rfl | h
  · exact .inl rfl
  · by_cases hne : l = []
    · subst hne; exact .inl rfl
    · exact .inr ⟨_, _, sg_cons hne, h⟩
theorem all_words : ∀ (n : Nat) (l : List UInt8), l.length ≤ n → ∀ p, (∀ w ∈ go none (sg p l), OkW p l w) ∧ (go none (sg p l)).Pairwise (fun u v => u.b ≤ v.a) := by
  intro n
  induction n with
  | zero =>
    intro l h p
    have : l = [] := List.eq_nil_of_length_eq_zero (by omega)
    subst this
    exact ⟨fun w hw => (by cases hw), List.Pairwise.nil⟩
  | succ n ih =>
    intro l h p
    by_cases hne : l = []
    · subst hne
      exact ⟨fun w hw => (by cases hw), List.Pairwise.nil⟩
    · have hw := wd_pos l
      have hle := wd_le hne
      by_cases hf : foldL (rn l) = []
      · have e : go none (sg p l) = go none (sg (p + wd l) (l.drop (wd l))) := by
          rw [sg_cons hne, go, if_pos (show (hd p l).text = [] from hf)]
        rw [e]
        obtain ⟨i1, i2⟩ := ih (l.drop (wd l)) (by rw [List.length_drop]; omega) (p + wd l)
        exact ⟨fun w hw => okW_drop hle (i1 w hw), i2⟩
      · obtain ⟨r1, r2, r3, r4⟩ := run_split l.length l (Nat.le_refl _)
        have hk : runK l = wd l + runK (l.drop (wd l)) := runK_more hne hf
        have htn : l.take (runK l) ≠ [] := take_ne hne (by omega)
        have htl : (l.take (runK l)).length = runK l := by rw [List.length_take]; omega
        obtain ⟨T, hT, ho⟩ := one_word htn r2
        rw [htl] at ho
        have e : go none (sg p l) = ⟨T, p, p + runK l⟩ :: go none (sg (p + runK l) (l.drop (runK l))) := by rw [r3 p, ho p _ (rest_part r4)]
        rw [e]
        obtain ⟨i1, i2⟩ := ih (l.drop (runK l)) (by rw [List.length_drop]; omega) (p + runK l)
        refine ⟨fun w hw => ?_, List.Pairwise.cons (fun w hw => (i1 w hw).1) i2⟩
        rcases List.mem_cons.1 hw with rfl | hw
        · refine ⟨Nat.le_refl _, by show p < p + runK l; omega, by show p + runK l ≤ p + l.length; omega, hT, ?_⟩
          have := ho 0 [] (.inl rfl)
          rw [List.append_nil] at this
          dsimp only
          rw [Nat.sub_self, List.drop_zero, show p + runK l - p = runK l by omega, this, Nat.zero_add]
          rfl
        · exact okW_drop r1 (i1 w hw)
theorem words_ok (t : List UInt8) : ∀ w ∈ wordsP t, OkW 0 t w := by rw [words_go]; exact (all_words t.length t (Nat.le_refl _) 0).1
theorem words_sorted (t : List UInt8) : (wordsP t).Pairwise (fun u v => u.b ≤ v.a) := by rw [words_go]; exact (all_words t.length t (Nat.le_refl _) 0).2
/-- The words of a row of pieces: one, of just these bytes. -/
theorem go_pieces : ∀ (fs : List (List UInt8)), (∀ f ∈ fs, Piece f) → ∀ (w : Wd) (p : Nat), w.b = p → w.text.length + fs.flatten.length ≤ 32 → go (some (w, false)) (sg p fs.flatten) = [⟨w.text ++ fs.flatten, w.a, p + fs.flatten.length⟩]
  | [], _, w, p, hb, _ => by subst hb; simp [sg_nil, go]
  | f :: fs, h, w, p, hb, hl => by
    obtain ⟨hf, c, hc, hr, hd1⟩ := h f (by simp)
    have hd2 := hd1 fs.flatten
    rw [List.flatten_cons, List.length_append] at hl
    have hne : f ++ fs.flatten ≠ [] := by simp [hf]
    have e1 : hd p (f ++ fs.flatten) = ⟨f, p, p + f.length⟩ := by unfold hd rn; rw [hd2]; dsimp only; rw [hc, hr]
    have e2 : wd (f ++ fs.flatten) = f.length := congrArg Prod.snd hd2
    rw [List.flatten_cons, sg_cons hne, e1, e2, List.drop_left, go, if_neg (show ¬ f = [] from hf)]
    have eg : grownW w ⟨f, p, p + f.length⟩ false = ⟨w.text ++ f, w.a, p + f.length⟩ := by
      unfold grownW cutB
      dsimp only
      rw [if_neg (by simp; omega)]
    have ec : cutB w ⟨f, p, p + f.length⟩ false = false := by unfold cutB; simp; omega
    rw [eg, ec, go_pieces fs (fun g hg => h g (by simp [hg])) _ _ rfl (by dsimp only; rw [List.length_append]; omega)]
    simp [Nat.add_assoc]
/-- The words of a word's text are just it, once. -/
theorem words_once {T : List UInt8} (h : Nice T) : wordsP T = [⟨T, 0, T.length⟩] := by
  obtain ⟨hne, hl, fs, rfl, hp⟩ := h
  rw [words_go]
  cases fs with
  | nil => exact absurd rfl hne
  | cons f fs =>
    obtain ⟨hf, c, hc, hr, hd1⟩ := hp f (by simp)
    have hd2 := hd1 fs.flatten
    rw [List.flatten_cons, List.length_append] at hl
    have hne2 : f ++ fs.flatten ≠ [] := by simp [hf]
    have e1 : hd 0 (f ++ fs.flatten) = ⟨f, 0, 0 + f.length⟩ := by unfold hd rn; rw [hd2]; dsimp only; rw [hc, hr]
    have e2 : wd (f ++ fs.flatten) = f.length := congrArg Prod.snd hd2
    rw [List.flatten_cons, sg_cons hne2, e1, e2, List.drop_left, go, if_neg (show ¬ f = [] from hf), go_pieces fs (fun g hg => hp g (by simp [hg])) _ _ rfl (by dsimp only; omega)]
    simp
/-- Cut out of its text a word is itself, alone. -/
theorem words_cut {t : List UInt8} {w : Wd} (h : w ∈ wordsP t) : wordsP ((t.drop w.a).take (w.b - w.a)) = [⟨w.text, 0, w.b - w.a⟩] := by
  obtain ⟨_, _, _, _, h5⟩ := words_ok t w h
  rw [words_go]
  exact h5
theorem awake_words : wordsP [195, 156, 98, 101, 114, 45, 71, 114, 195, 182, 195, 159, 101, 32, 52, 50] = [⟨[117, 98, 101, 114], 0, 5⟩, ⟨[103, 114, 111, 115, 115, 101], 6, 13⟩, ⟨[52, 50], 14, 16⟩] := by kernel_rfl
end Go.Proofs.YtoghdllppecblaaDoor
