/- What the document's Parse gathers, byte by byte: plain words. -/
import Derived.Test.YtoeddhkbifeamaaDoorNRefSmall
import Derived.Test.YtoeddhkbifeamaaDoorNBackM
namespace Go.Proofs.YtoeddhkbifeamaaDoor
open Go.RowKit

set_option linter.unusedVariables false
abbrev St := List UInt8 × Nat × Bool
def stepS (x : St) (c : UInt8) : St := if fig c = true then (x.1 ++ [c], if x.2.2 = true then x.2.1 + 1 else x.2.1, x.2.2) else (x.1, x.2.1, x.2.2 || c == 46)
def st (s : ByteArray) (i : Nat) : St := (s.data.toList.take i).foldl stepS ([], 0, false)
theorem st_zero (s : ByteArray) : st s 0 = ([], 0, false) := rfl
theorem st_next (s : ByteArray) (i : Nat) (h : i < s.size) : st s (i + 1) = stepS (st s i) s[i] := by
  unfold st
  rw [take_snoc s i h, List.foldl_append]
  rfl
theorem figs_fold : ∀ (F D : List UInt8) (b : Nat) (t : Bool), Figs F → F.foldl stepS (D, b, t) = (D ++ F, (if t = true then b + F.length else b), t)
  | [], D, b, t, _ => by simp
  | c :: F, D, b, t, h => by
    have hc := h c (by simp)
    rw [List.foldl_cons]
    have e : stepS (D, b, t) c = (D ++ [c], (if t = true then b + 1 else b), t) := by unfold stepS; rw [if_pos hc]
    rw [e, figs_fold F _ _ _ fun x hx => h x (by simp [hx])]
    cases t
    · simp
    · simp; omega
theorem st_run (s : ByteArray) (i : Nat) (D : List UInt8) (b : Nat) (t : Bool) (h : st s i = (D, b, t)) (hi : i ≤ s.size) :
    st s (i + runAt s i) = (D ++ (s.extract i (i + runAt s i)).data.toList, (if t = true then b + runAt s i else b), t) := by
  have hle := runAt_le s i hi
  have hf := figs_run s i
  have hx : (s.extract i (i + runAt s i)).data.toList = (s.data.toList.drop i).take (runAt s i) := by rw [Lib.extract_data, Nat.add_sub_cancel_left]
  have hl : ((s.data.toList.drop i).take (runAt s i)).length = runAt s i := by rw [List.length_take, List.length_drop]; simp; omega
  rw [hx] at hf ⊢
  unfold st at h ⊢
  rw [List.take_add, List.foldl_append, h, figs_fold _ _ _ _ hf, hl]
theorem st_len (s : ByteArray) : ∀ i, i ≤ s.size → (st s i).1.length ≤ i ∧ (st s i).2.1 ≤ i
  | 0, _ => ⟨Nat.le_refl _, Nat.le_refl _⟩
  | i + 1, h => by
    have ih := st_len s i (by omega)
    rw [st_next s i (by omega)]
    generalize st s i = x at ih
    obtain ⟨D, b, t⟩ := x
    have h1 : D.length ≤ i := ih.1
    have h2 : b ≤ i := ih.2
    unfold stepS
    by_cases hf : fig (s[i]'(by omega)) = true
    · rw [if_pos hf]
      refine ⟨by simp; exact h1, ?_⟩
      show (if t = true then b + 1 else b) ≤ _
      split <;> omega
    · rw [if_neg hf]
      exact ⟨Nat.le_succ_of_le h1, Nat.le_succ_of_le h2⟩
theorem ext_one (s : ByteArray) (i : Nat) (h : i < s.size) : (s.extract i (i + 1)).data.toList = [s[i]] := by
  rw [Lib.extract_data, Nat.add_sub_cancel_left, List.drop_eq_getElem_cons (by simpa using h), byteOf s i h]
  rfl
theorem app_one (s : ByteArray) (i : Nat) (h : i < s.size) (D : List UInt8) : (⟨D.toArray⟩ : ByteArray) ++ s.extract i (i + 1) = ⟨(D ++ [s[i]]).toArray⟩ := by
  apply ByteArray.ext
  apply Array.toList_inj.1
  have := ext_one s i h
  simp only [ByteArray.data_append, Array.toList_append, this]
/-- No exponent ahead of a place. -/
def NoE (s : ByteArray) (M : Nat) : Prop := ∀ i (h : i < s.size), i < M → s[i].toNat ≠ 101 ∧ s[i].toNat ≠ 69
theorem noE_zero (s : ByteArray) : NoE s 0 := fun i _ h => absurd h (by omega)
theorem noE_next {s : ByteArray} {M : Nat} (h : NoE s M) (hM : M < s.size) (h1 : s[M].toNat ≠ 101 ∧ s[M].toNat ≠ 69) : NoE s (M + 1) := fun i hi hlt => by
  by_cases e : i = M
  · subst e; exact h1
  · exact h i hi (by omega)
theorem noE_run {s : ByteArray} {M : Nat} (h : NoE s M) (hM : M ≤ s.size) : NoE s (M + runAt s M) := fun i hi hlt => by
  rcases Nat.lt_or_ge i M with hl | hl
  · exact h i hi hl
  · have hf := runL_fig (s.data.toList.drop M) (i - M) (by unfold runAt at hlt; omega)
    rw [List.getElem_drop] at hf
    have e := byteOf s (M + (i - M)) (by omega)
    rw [e] at hf
    have hf2 : fig s[i] = true := by
      have : M + (i - M) = i := by omega
      simpa only [this] using hf
    have := fig_yes hf2
    omega
/-- How the text ends: there, or with an exponent. -/
def Ends (s : ByteArray) (M : Nat) (dn : Bool) (X : ByteArray) : Prop :=
  (M = s.size ∧ dn = false ∧ X = ⟨#[]⟩) ∨
  ∃ (h : M + 1 < s.size) (k : Nat), (s[M].toNat = 101 ∨ s[M].toNat = 69) ∧ ((fig s[M + 1] = true ∧ k = M + 1) ∨ (fig s[M + 1] = false ∧ k = M + 2)) ∧ (s[M + 1].toNat = 45 ↔ dn = true) ∧ k ≤ s.size ∧ s.extract k s.size = X ∧ Figs X.data.toList
structure Shape (s : ByteArray) (M : Nat) (t : Bool) : Prop where
  le : M ≤ s.size
  no : NoE s M
  st : st s M = ((cutP s).whole.data.toList ++ (cutP s).rest.data.toList, (cutP s).rest.size, t)
  ends : Ends s M (cutP s).down (cutP s).exponent
  minus : (cutP s).below = signAt s 0 [45]
theorem size_list (s : ByteArray) : s.data.toList.length = s.size := by simp
theorem ends_tail (s : ByteArray) (b : Bool) (wh re : ByteArray) (i : Nat) (h : (cutTail s b wh re i).length = s.size) (hi : i ≤ s.size) :
    Ends s i (cutTail s b wh re i).down (cutTail s b wh re i).exponent ∧ (cutTail s b wh re i).whole = wh ∧ (cutTail s b wh re i).rest = re ∧ (cutTail s b wh re i).below = b := by
  unfold cutTail at h ⊢
  by_cases he : signAt s i [101, 69] = true
  · rw [if_pos he] at h ⊢
    have hlt := signAt_lt he
    by_cases hr : runAt s (expI s i) = 0
    · rw [if_pos hr] at h
      have : i = s.size := h
      omega
    · rw [if_neg hr] at h ⊢
      have hsz : expI s i + runAt s (expI s i) = s.size := h
      have hkl := run_lt s _ hr
      have hbyte : s[i].toNat = 101 ∨ s[i].toNat = 69 := by
        rw [signAt_in s i _ hlt] at he
        have : s[i] = 101 ∨ s[i] = 69 := by simpa using he
        rcases this with h | h <;> rw [h]
        · exact .inl rfl
        · exact .inr rfl
      have hx := exp_eq s i
      have hi1 : i + 1 < s.size := by
        have : i + 1 ≤ expI s i := by rw [hx]; split <;> omega
        omega
      refine ⟨.inr ⟨hi1, expI s i, hbyte, ?_, ?_, by omega, by rw [← hsz], figs_run s _⟩, rfl, rfl, rfl⟩
      · rw [signAt_in s _ _ hi1] at hx
        by_cases h1 : s[i + 1] = 43
        · right
          rw [h1] at hx ⊢
          exact ⟨by decide, hx⟩
        · by_cases h2 : s[i + 1] = 45
          · right
            rw [h2] at hx ⊢
            exact ⟨by decide, hx⟩
          · left
            rw [if_neg (by simp [h1, h2])] at hx
            refine ⟨?_, hx⟩
            have := runL_fig (s.data.toList.drop (expI s i)) 0 (by unfold runAt at hr; omega)
            rw [List.getElem_drop] at this
            have e := byteOf s (expI s i + 0) (by omega)
            rw [e] at this
            simpa only [hx, Nat.add_zero] using this
      · show _ ↔ signAt s (i + 1) [45] = true
        rw [signAt_in s _ _ hi1]
        constructor
        · intro h
          have : s[i + 1] = 45 := UInt8.toNat_inj.1 h
          rw [this]; decide
        · intro h
          have : s[i + 1] = 45 := by simpa using h
          rw [this]; rfl
  · rw [if_neg he] at h ⊢
    exact ⟨.inl ⟨h, rfl, rfl⟩, rfl, rfl, rfl⟩
theorem mk_nil : (⟨#[]⟩ : ByteArray).data.toList = [] := rfl
theorem shape_dot (s : ByteArray) (b : Bool) (wh : ByteArray) (i : Nat) (hc : cutP s = cutDot s b wh i) (h : (cutP s).length = s.size) (hi : i ≤ s.size) (hno : NoE s i) (hst : st s i = (wh.data.toList, 0, false)) (hb : b = signAt s 0 [45]) :
    ∃ M t, Shape s M t := by
  unfold cutDot at hc
  by_cases hd : signAt s i [46] = true
  · rw [if_pos hd] at hc
    have hlt := signAt_lt hd
    have hbyte : s[i] = 46 := by
      rw [signAt_in s i _ hlt] at hd
      simpa using hd
    by_cases hr : runAt s (i + 1) = 0
    · rw [if_pos hr] at hc
      rw [hc] at h
      have : i = s.size := h
      omega
    · rw [if_neg hr] at hc
      have hle := runAt_le s (i + 1) (by omega)
      have h1 : st s (i + 1) = (wh.data.toList, 0, true) := by
        rw [st_next s i hlt, hst, hbyte]
        rfl
      have h2 := st_run s (i + 1) _ _ _ h1 (by omega)
      have hn1 := noE_run (noE_next hno hlt (by rw [hbyte]; exact ⟨by decide, by decide⟩)) (by omega : i + 1 ≤ s.size)
      rw [hc] at h
      obtain ⟨e1, e2, e3, e4⟩ := ends_tail s b wh _ _ h hle
      rw [← hc] at e1 e2 e3 e4
      refine ⟨i + 1 + runAt s (i + 1), true, hle, hn1, ?_, e1, by rw [e4, hb]⟩
      rw [h2, e2, e3]
      have : (s.extract (i + 1) (i + 1 + runAt s (i + 1))).size = runAt s (i + 1) := by rw [ByteArray.size_extract]; omega
      rw [this]
      simp
  · rw [if_neg hd] at hc
    rw [hc] at h
    obtain ⟨e1, e2, e3, e4⟩ := ends_tail s b wh _ _ h hi
    rw [← hc] at e1 e2 e3 e4
    refine ⟨i, false, hi, hno, ?_, e1, by rw [e4, hb]⟩
    rw [hst, e2, e3, mk_nil, List.append_nil]
    rfl
theorem shape_all (s : ByteArray) (h : (cutP s).length = s.size) (h0 : s.size ≠ 0) : ∃ M t, Shape s M t := by
  have hlt0 : 0 < s.size := by omega
  obtain ⟨i0, hi0⟩ : ∃ i, i = tookI s 0 [45] := ⟨_, rfl⟩
  have hle0 : i0 ≤ s.size := hi0 ▸ tookI_le s 0 [45] (Nat.zero_le _)
  have hst0 : st s i0 = ([], 0, false) ∧ NoE s i0 := by
    by_cases hm : signAt s 0 [45] = true
    · have hbyte : s[0] = 45 := by
        rw [signAt_in s 0 _ hlt0] at hm
        simpa using hm
      have e : i0 = 0 + 1 := by rw [hi0]; unfold tookI; rw [if_pos hm]
      rw [e]
      refine ⟨?_, noE_next (noE_zero s) hlt0 (by rw [hbyte]; exact ⟨by decide, by decide⟩)⟩
      rw [st_next s 0 hlt0, st_zero, hbyte]
      rfl
    · have e : i0 = 0 := by rw [hi0]; unfold tookI; rw [if_neg hm]
      rw [e]
      exact ⟨rfl, noE_zero s⟩
  have hcut : cutP s = if signAt s i0 [48] = true then cutDot s (signAt s 0 [45]) ⟨#[48]⟩ (i0 + 1) else if runAt s i0 = 0 then noPc else cutDot s (signAt s 0 [45]) (s.extract i0 (i0 + runAt s i0)) (i0 + runAt s i0) := by rw [hi0]; rfl
  by_cases hz : signAt s i0 [48] = true
  · rw [if_pos hz] at hcut
    have hlt := signAt_lt hz
    have hbyte : s[i0] = 48 := by
      rw [signAt_in s i0 _ hlt] at hz
      simpa using hz
    refine shape_dot s _ _ _ hcut h (by omega) (noE_next hst0.2 hlt (by rw [hbyte]; exact ⟨by decide, by decide⟩)) ?_ rfl
    rw [st_next s i0 hlt, hst0.1, hbyte]
    rfl
  · rw [if_neg hz] at hcut
    by_cases hr : runAt s i0 = 0
    · rw [if_pos hr] at hcut
      rw [hcut] at h
      exact absurd h.symm h0
    · rw [if_neg hr] at hcut
      refine shape_dot s _ _ _ hcut h (runAt_le s i0 hle0) (noE_run hst0.2 hle0) ?_ rfl
      have := st_run s i0 _ _ _ hst0.1 hle0
      rw [this]
      simp
end Go.Proofs.YtoeddhkbifeamaaDoor
