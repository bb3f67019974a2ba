/- The document's Cover: plain: numbers put in order one by one; ranges of them. -/
import Derived.Test.YtihigingddaopaaDoorHBlk
namespace Go.Proofs.YtihigingddaopaaDoor
set_option linter.unusedVariables false

def insL (c : Nat) : List Nat → List Nat
  | [] => [c]
  | x :: xs => if x < c then x :: insL c xs else c :: x :: xs
def lessN (c : Nat) : List Nat → Nat
  | [] => 0
  | x :: xs => if x < c then lessN c xs + 1 else 0
theorem less_le (c : Nat) (l : List Nat) : lessN c l ≤ l.length := by
  induction l with
  | nil => exact Nat.le_refl _
  | cons x xs ih => rw [lessN, List.length_cons]; split <;> omega
theorem ins_take (c : Nat) (l : List Nat) : insL c l = l.take (lessN c l) ++ c :: l.drop (lessN c l) := by
  induction l with
  | nil => rfl
  | cons x xs ih =>
    rw [insL, lessN]
    by_cases h : x < c
    · rw [if_pos h, if_pos h, ih]; rfl
    · rw [if_neg h, if_neg h]; rfl
theorem less_lt (c : Nat) : ∀ (l : List Nat) (i x : Nat), l[i]? = some x → i < lessN c l → x < c
  | [], i, x, h, _ => by simp at h
  | y :: t, 0, x, h, hi => by
    simp at h
    subst h
    rw [lessN] at hi
    split at hi
    · assumption
    · omega
  | y :: t, i + 1, x, h, hi => by
    rw [lessN] at hi
    split at hi
    · exact less_lt c t i x (by simpa using h) (by omega)
    · omega
theorem less_at (c : Nat) : ∀ (l : List Nat) (x : Nat), l[lessN c l]? = some x → ¬ x < c
  | [], x, h => by simp at h
  | y :: t, x, h => by
    by_cases hy : y < c
    · have e : lessN c (y :: t) = lessN c t + 1 := by rw [lessN, if_pos hy]
      rw [e] at h
      exact less_at c t x (by simpa using h)
    · have e : lessN c (y :: t) = 0 := by rw [lessN, if_neg hy]
      rw [e] at h
      simp at h
      subst h
      exact hy
theorem ins_perm (c : Nat) (l : List Nat) : (insL c l).Perm (c :: l) := by
  induction l with
  | nil => exact List.Perm.refl _
  | cons x xs ih =>
    rw [insL]
    split
    · exact (List.Perm.cons x ih).trans (List.Perm.swap _ _ _)
    · exact List.Perm.refl _
theorem ins_sorted {c : Nat} : ∀ {l : List Nat}, l.Pairwise (· < ·) → c ∉ l → (insL c l).Pairwise (· < ·)
  | [], _, _ => by simp [insL]
  | x :: xs, h, hc => by
    rw [List.pairwise_cons] at h
    rw [insL]
    have hne : x ≠ c := fun e => hc (by simp [e])
    split
    · rename_i hx
      rw [List.pairwise_cons]
      refine ⟨fun y hy => ?_, ins_sorted h.2 fun m => hc (by simp [m])⟩
      rcases List.mem_cons.1 ((ins_perm c xs).mem_iff.1 hy) with rfl | hy
      · exact hx
      · exact h.1 y hy
    · rename_i hx
      rw [List.pairwise_cons]
      refine ⟨fun y hy => ?_, List.pairwise_cons.2 h⟩
      rcases List.mem_cons.1 hy with rfl | hy
      · omega
      · have := h.1 y hy; omega
def allIns (l : List Nat) : List Nat := l.foldl (fun acc c => insL c acc) []
theorem allIns_snoc (l : List Nat) (c : Nat) : allIns (l ++ [c]) = insL c (allIns l) := by unfold allIns; rw [List.foldl_append]; rfl
theorem allIns_perm (l : List Nat) : (allIns l).Perm l := by
  have : ∀ n (l : List Nat), l.length = n → (allIns l).Perm l := by
    intro n
    induction n with
    | zero => intro l hl; rw [List.eq_nil_of_length_eq_zero hl]; exact List.Perm.refl _
    | succ n ih =>
      intro l hl
      obtain ⟨ini, c, rfl⟩ : ∃ ini c, l = ini ++ [c] := ⟨l.dropLast, l.getLast (by intro e; subst e; simp at hl), (List.dropLast_concat_getLast _).symm⟩
      rw [allIns_snoc]
      refine (ins_perm c _).trans ?_
      refine (List.Perm.cons c (ih ini (by simpa using hl))).trans ?_
      exact (List.perm_append_singleton c ini).symm
  exact this _ l rfl
theorem allIns_len (l : List Nat) : (allIns l).length = l.length := (allIns_perm l).length_eq
theorem allIns_sorted {l : List Nat} (h : l.Nodup) : (allIns l).Pairwise (· < ·) := by
  have : ∀ n (l : List Nat), l.length = n → l.Nodup → (allIns l).Pairwise (· < ·) := by
    intro n
    induction n with
    | zero => intro l hl _; rw [List.eq_nil_of_length_eq_zero hl]; exact List.Pairwise.nil
    | succ n ih =>
      intro l hl hn
      obtain ⟨ini, c, rfl⟩ : ∃ ini c, l = ini ++ [c] := ⟨l.dropLast, l.getLast (by intro e; subst e; simp at hl), (List.dropLast_concat_getLast _).symm⟩
      rw [allIns_snoc]
      rw [List.nodup_append] at hn
      refine ins_sorted (ih ini (by simpa using hl) hn.1) fun hm => ?_
      exact hn.2.2 c ((allIns_perm ini).mem_iff.1 hm) c (by simp) rfl
  exact this _ l rfl h
/-- What Cover gives of any rect, in the document's words. -/
def refL (k : Nat) (B : Bk) : List Rg := joinL ((allIns (B.up k).codes).map (rgOf k))
theorem codes_nd {B : Bk} (h : B.ok) : B.codes.Nodup := codes_nodup h.1 h.2.1 h.2.2.1 h.2.2.2
theorem covers_ref {B : Bk} {most : Nat} {L : List Rg} (hB : B.ok) (h : Covers B most L) : ∃ k, k ≤ 32 ∧ (B.up k).cnt ≤ most ∧ (∀ j, j < k → most < (B.up j).cnt) ∧ L = refL k B := by
  obtain ⟨k, S, h1, h2, h3, h4, h5, h6⟩ := h
  refine ⟨k, h1, h2, h3, ?_⟩
  have hn := codes_nd (Bk.up_ok hB k)
  obtain ⟨cs, e1, e2, e3⟩ := sorted_cells h4 h5 hn
  have : cs = allIns (B.up k).codes := List.Perm.eq_of_pairwise (le := (· < ·)) (fun a b _ _ h1 h2 => by omega) e2 (allIns_sorted hn) (e3.trans (allIns_perm _).symm)
  rw [h6, e1, this]; rfl
theorem least_one {B : Bk} {most k j : Nat} (h1 : (B.up k).cnt ≤ most) (h2 : ∀ i, i < k → most < (B.up i).cnt) (h3 : (B.up j).cnt ≤ most) (h4 : ∀ i, i < j → most < (B.up i).cnt) : k = j := by
  rcases Nat.lt_trichotomy k j with h | h | h
  · have := h4 k h; omega
  · exact h
  · have := h2 j h; omega
theorem lastHi_step (out : List Rg) (r : Rg) : lastHi (jstep out r) = r.2 := by
  rcases snoc_cases out with rfl | ⟨ini, l, rfl⟩
  · rw [jstep_nil]; rfl
  · by_cases h : l.2 + 1 = r.1
    · rw [jstep_join h, lastHi_snoc]
    · rw [jstep_new h, lastHi_snoc]
theorem lastHi_of {k : Nat} {cs : List Nat} {i c : Nat} (h : cs[i]? = some c) : lastHi (joinL ((cs.take (i + 1)).map (rgOf k))) = (rgOf k c).2 := by
  have e : cs.take (i + 1) = cs.take i ++ [c] := by rw [List.take_add_one, h]; rfl
  rw [e, List.map_append, List.map_singleton, join_snoc, lastHi_step]
theorem join_ne {cs : List Nat} {i k c : Nat} (h : cs[i]? = some c) : joinL ((cs.take (i + 1)).map (rgOf k)) ≠ [] := by
  have e : cs.take (i + 1) = cs.take i ++ [c] := by rw [List.take_add_one, h]; rfl
  rw [e, List.map_append, List.map_singleton, join_snoc]
  rcases snoc_cases (joinL (List.map (rgOf k) (List.take i cs))) with h0 | ⟨ini, l, h0⟩
  · rw [h0, jstep_nil]; simp
  · rw [h0]
    by_cases h : l.2 + 1 = (rgOf k c).1
    · rw [jstep_join h]; simp
    · rw [jstep_new h]; simp
theorem rg_next {k c d : Nat} : (rgOf k c).2 + 1 = (rgOf k d).1 ↔ c + 1 = d := by
  have hp : 0 < 4 ^ k := Nat.pow_pos (by omega)
  unfold rgOf
  dsimp only
  rw [show c * 4 ^ k + 4 ^ k - 1 + 1 = (c + 1) * 4 ^ k by rw [Nat.add_mul]; omega]
  constructor
  · intro h; exact Nat.eq_of_mul_eq_mul_right hp h
  · intro h; rw [h]
/-- The range of a number grown by j halvings. -/
theorem rg_zero (c : Nat) : rgOf 0 c = (c, c) := by unfold rgOf; rw [Nat.pow_zero, Nat.mul_one, Nat.add_sub_cancel]
theorem rg_succ (j c : Nat) : rgOf (j + 1) c = (4 * (rgOf j c).1, 4 * (rgOf j c).2 + 3) := by
  have hp : 0 < 4 ^ j := Nat.pow_pos (by omega)
  unfold rgOf
  rw [Nat.pow_succ]
  dsimp only
  congr 1
  · rw [← Nat.mul_assoc]; omega
  · rw [← Nat.mul_assoc]; omega
theorem mix_low_eq {x y d : Nat} (hx : x < 2 ^ d) (hy : y < 2 ^ d) : ∀ j, mixN x y (d + j) = mixN x y d := by
  intro j
  induction j with
  | zero => rfl
  | succ j ih =>
    rw [show d + (j + 1) = d + j + 1 by omega, mix_zero_top (Nat.lt_of_lt_of_le hx (Nat.pow_le_pow_right (by omega) (by omega))) (Nat.lt_of_lt_of_le hy (Nat.pow_le_pow_right (by omega) (by omega)))]
    exact ih
theorem codes_pre (a c d i j : Nat) : ((List.range' a i).flatMap (colL c d)) ++ ((List.range' c (j + 1)).map fun y => mixN (a + i) y 32) = (((List.range' a i).flatMap (colL c d)) ++ ((List.range' c j).map fun y => mixN (a + i) y 32)) ++ [mixN (a + i) (c + j) 32] := by
  rw [List.range'_1_concat, List.map_append, List.append_assoc]; rfl
theorem codes_col (a c d i : Nat) : (List.range' a (i + 1)).flatMap (colL c d) = ((List.range' a i).flatMap (colL c d)) ++ ((List.range' c (d - c + 1)).map fun y => mixN (a + i) y 32) := by
  rw [List.range'_1_concat, List.flatMap_append, List.flatMap_singleton]; rfl
theorem ranges_le {k : Nat} (cs : List Nat) : (joinL (cs.map (rgOf k))).length ≤ cs.length := by
  have : ∀ n (cs : List Nat), cs.length = n → (joinL (cs.map (rgOf k))).length ≤ cs.length := by
    intro n
    induction n with
    | zero => intro cs hc; rw [List.eq_nil_of_length_eq_zero hc]; exact Nat.le_refl _
    | succ n ih =>
      intro cs hc
      obtain ⟨ini, c, rfl⟩ : ∃ ini c, cs = ini ++ [c] := ⟨cs.dropLast, cs.getLast (by intro e; subst e; simp at hc), (List.dropLast_concat_getLast _).symm⟩
      have h := ih ini (by simpa using hc)
      rw [List.map_append, List.map_singleton, join_snoc]
      rcases snoc_cases (joinL (List.map (rgOf k) ini)) with h0 | ⟨i2, l, h0⟩
      · rw [h0, jstep_nil]; simp
      · rw [h0] at h ⊢
        simp at h ⊢
        by_cases hh : l.2 + 1 = (rgOf k c).1
        · rw [jstep_join hh]; simp; omega
        · rw [jstep_new hh]; simp; omega
  exact this _ cs rfl
end Go.Proofs.YtihigingddaopaaDoor
