/- A printed number is read as it was: plain words. -/
import Derived.Test.YtoeddhkbifeamaaDoorNShape
import Derived.Test.YtoeddhkbifeamaaDoorNPrint
namespace Go.Proofs.YtoeddhkbifeamaaDoor
open Go.RowKit

theorem pow_lt_of {a b : Nat} (h : 10 ^ a < 10 ^ b) : a < b := (Nat.pow_lt_pow_iff_right (by omega)).1 h
theorem mk_list (l : List UInt8) : (⟨l.toArray⟩ : ByteArray).data.toList = l := by simp
theorem trimL_sub2 (l : List UInt8) (x : UInt8) (h : x ∈ Lib.trimLeftB l 48) : x ∈ l := (List.dropWhile_sublist _).subset h
theorem trimR_sub2 (l : List UInt8) : ∀ x ∈ Lib.trimRightB l 48, x ∈ l := fun x h => by
  unfold Lib.trimRightB at h
  rw [List.mem_reverse] at h
  exact List.mem_reverse.1 ((List.dropWhile_sublist _).subset h)
theorem value_exact (b : Bool) (D R : List UInt8) (n N : Nat) (hD : Figs D) (hR : Figs R) (hm : R.length ≤ 7) (hN : N = valL (D ++ R) * 10 ^ (7 - R.length)) (hle : N ≤ 9000000000000000000) :
    valV ⟨b, ⟨D.toArray⟩, ⟨R.toArray⟩, false, ⟨#[]⟩, n⟩ = numV N b ∧ valE ⟨b, ⟨D.toArray⟩, ⟨R.toArray⟩, false, ⟨#[]⟩, n⟩ = 0 := by
  obtain ⟨p, hp⟩ : ∃ p : Pc, p = ⟨b, ⟨D.toArray⟩, ⟨R.toArray⟩, false, ⟨#[]⟩, n⟩ := ⟨_, rfl⟩
  rw [← hp]
  have hF : frontL p = Lib.trimLeftB (D ++ R) 48 := by rw [hp]; unfold frontL; rw [mk_list, mk_list]
  have hB : bareL p = Lib.trimRightB (frontL p) 48 := rfl
  have hb : p.below = b := by rw [hp]
  have hz : zerosZ p = (frontL p).length - (bareL p).length - R.length + 0 + 7 := by
    have h1 : p.rest.size = R.length := by rw [hp, Lib.size_mk]
    have h2 : powV p = 0 := by rw [hp]; rfl
    unfold zerosZ
    rw [h1, h2]
  have e1 := trimR_back (frontL p)
  rw [← hB] at e1
  have v1 : valL (frontL p) = valL (D ++ R) := by rw [hF, valL_front]
  have hlen : (bareL p).length ≤ (frontL p).length := trimR_le _ _
  obtain ⟨k, hk⟩ : ∃ k, k = (frontL p).length - (bareL p).length := ⟨_, rfl⟩
  rw [← hk] at e1
  have v2 : valL (frontL p) = valL (bareL p) * 10 ^ k := by
    have := valL_zeros (bareL p) k
    rwa [← e1] at this
  have hz2 : zerosZ p = ((k + (7 - R.length) : Nat) : Int) := by rw [hz]; omega
  have hs : valL (bareL p ++ List.replicate (k + (7 - R.length)) 48) = N := by
    rw [valL_zeros, Nat.pow_add, ← Nat.mul_assoc, ← v2, v1, hN]
  by_cases hnil : bareL p = []
  · have h0 : N = 0 := by
      rw [hN, ← v1, v2, hnil]
      show valL [] * _ * _ = 0
      rw [show valL [] = 0 from rfl]
      simp
    have hv : valV p = 0 := if_pos hnil
    have he : valE p = 0 := if_pos hnil
    rw [hv, he, h0]
    refine ⟨?_, rfl⟩
    cases b <;> rfl
  · obtain ⟨c, l, hcl⟩ : ∃ c l, bareL p = c :: l := by
      cases h : bareL p with
      | nil => exact absurd h hnil
      | cons c l => exact ⟨c, l, rfl⟩
    have hc : c ≠ 48 := front_head (D ++ R) c (l ++ List.replicate k 48) (by rw [← hF, e1, hcl]; rfl)
    have hcf : fig c = true := by
      refine hD.append hR c (trimL_sub2 _ _ ?_)
      rw [← hF, e1, hcl]
      simp
    have hge := valL_ge c l hcf hc
    rw [← hcl] at hge
    have h19 : (bareL p).length + (k + (7 - R.length)) ≤ 19 := by
      have h1 : 10 ^ (l.length + (k + (7 - R.length))) ≤ N := by
        rw [← hs, valL_zeros, Nat.pow_add]
        exact Nat.mul_le_mul_right _ hge
      have h2 : 10 ^ (l.length + (k + (7 - R.length))) < 10 ^ 19 := by
        have : (10 : Nat) ^ 19 = 10000000000000000000 := by decide
        omega
      have := pow_lt_of h2
      rw [hcl, List.length_cons]
      omega
    have hno : ¬ (zerosZ p < 0 ∨ 19 < ((bareL p).length : Int) + zerosZ p) := by rw [hz2]; omega
    have hsz : sizeN p = N := by unfold sizeN; rw [hz2]; exact hs
    have hv : valV p = numV (sizeN p) p.below := by unfold valV; rw [if_neg hnil, if_neg hno]
    have he : valE p = numE (sizeN p) := by unfold valE; rw [if_neg hnil, if_neg hno]
    rw [hv, he, hsz, hb]
    exact ⟨rfl, if_pos hle⟩
theorem whole_dec (u : Nat) : Whole (Lib.decDigits u) := ⟨dec_figs u, dec_ne u, fun c m h hc => (dec_head u c m h hc).2⟩
/-- The figures behind the point. -/
theorem rest_facts (r : Nat) (h0 : r ≠ 0) (h : r < 10000000) : ∃ R, restL r = 46 :: R ∧ Figs R ∧ R ≠ [] ∧ R.length ≤ 7 ∧ r = valL R * 10 ^ (7 - R.length) := by
  obtain ⟨z, hz⟩ : ∃ z, z = 10000000 + r := ⟨_, rfl⟩
  obtain ⟨d, X, hd⟩ : ∃ d X, Lib.decDigits z = d :: X := by
    cases h : Lib.decDigits z with
    | nil => exact absurd h (dec_ne z)
    | cons d X => exact ⟨d, X, rfl⟩
  have hl : (Lib.decDigits z).length = 8 := by rw [Lib.decDigits_length]; exact Lib.nDigits_unique 7 z (by show 10000000 ≤ z; omega) (by show z < 100000000; omega)
  have hX : X.length = 7 := by rw [hd] at hl; simpa using hl
  have hv := dec_val z
  have hf := dec_figs z
  rw [hd] at hv hf
  rw [valL_cons, hX] at hv
  have hXf : Figs X := fun c hc => hf c (by simp [hc])
  have hXv := valL_lt X hXf
  rw [hX] at hXv
  have h7 : (10 : Nat) ^ 7 = 10000000 := by decide
  rw [h7] at hv hXv
  have hr : valL X = r := by
    have hd1 := fig_yes (hf d (by simp))
    generalize d.toNat - 48 = e at hv
    rcases Nat.lt_or_ge e 1 with he | he
    · have : e = 0 := by omega
      subst this
      omega
    · rcases Nat.lt_or_ge e 2 with he2 | he2
      · have : e = 1 := by omega
        subst this
        omega
      · have : 2 * 10000000 ≤ e * 10000000 := Nat.mul_le_mul_right _ he2
        omega
  have hback := trimR_back X
  have hle := trimR_le X 48
  refine ⟨Lib.trimRightB X 48, ?_, hXf.sub (trimR_sub2 X), fun e => ?_, by omega, ?_⟩
  · unfold restL
    rw [if_neg h0, ← hz, hd]
    rfl
  · rw [e] at hback
    rw [hback] at hr
    rw [List.nil_append] at hr
    have := valL_zeros [] (X.length - ([] : List UInt8).length)
    rw [List.nil_append, hr] at this
    rw [show valL [] = 0 from rfl] at this
    omega
  · rw [← hr]
    have := valL_zeros (Lib.trimRightB X 48) (X.length - (Lib.trimRightB X 48).length)
    rw [← hback, hX] at this
    exact this
theorem back_num (n : Int) (h : heldB n = true) : numV n.natAbs (decide (n < 0)) = n ∧ numE n.natAbs = 0 := by
  obtain ⟨h1, h2⟩ := heldB_yes h
  have h3 : n.natAbs ≤ 9000000000000000000 := by omega
  unfold numV numE
  rw [if_pos h3, if_pos h3]
  refine ⟨?_, rfl⟩
  by_cases hn : n < 0
  · rw [show decide (n < 0) = true from decide_eq_true hn, if_pos rfl]; omega
  · rw [show decide (n < 0) = false from decide_eq_false hn, if_neg (by simp)]; omega
theorem back_all (n : Int) (h : heldB n = true) (s : ByteArray) (hs : s.data.toList = printL n) : parseV s = n ∧ parseE s = 0 ∧ (cutP s).length = s.size := by
  obtain ⟨P, hP⟩ : ∃ P : List UInt8, P = if n < 0 then [45] else [] := ⟨_, rfl⟩
  have hsign : Sign P := by
    rw [hP]
    split
    · exact .inl rfl
    · exact .inr rfl
  have hsb : signB P = decide (n < 0) := by
    rw [hP]
    by_cases hn : n < 0
    · rw [if_pos hn, decide_eq_true hn]; rfl
    · rw [if_neg hn, decide_eq_false hn]; rfl
  obtain ⟨hb1, hb2⟩ := heldB_yes h
  obtain ⟨m, hm⟩ : ∃ m, m = n.natAbs := ⟨_, rfl⟩
  have hm9 : m ≤ 9000000000000000000 := by omega
  obtain ⟨g1, g2⟩ := back_num n h
  rw [← hm] at g1 g2
  have hs2 : s.data.toList = P ++ (Lib.decDigits (m / 10000000) ++ restL (m % 10000000)) := by rw [hs]; unfold printL; rw [← hP, ← hm, List.append_assoc]
  have hsize : s.size = s.data.toList.length := by simp
  obtain ⟨D, hD⟩ : ∃ D, D = Lib.decDigits (m / 10000000) := ⟨_, rfl⟩
  have hDw : Whole D := hD ▸ whole_dec _
  have hDv : valL D = m / 10000000 := by rw [hD]; exact dec_val _
  have hDl : D.length ≤ 20 := by rw [hD]; exact (dec_len _ (by omega)).2
  have hPl : P.length ≤ 1 := by rcases hsign with rfl | rfl <;> simp
  rw [← hD] at hs2
  have done : ∀ (p : Pc), cutP s = p → p.length = s.size → s.size ≠ 0 → s.size ≤ 65536 → valV p = numV m (decide (n < 0)) → valE p = 0 → parseV s = n ∧ parseE s = 0 ∧ (cutP s).length = s.size := by
    intro p e1 e2 e3 e4 e5 e6
    unfold parseV parseE
    rw [e1, e2, if_neg (by omega), if_neg (by omega), if_neg (by omega), if_neg (by omega), e5, e6]
    exact ⟨g1, rfl, rfl⟩
  by_cases h0 : m % 10000000 = 0
  · have hr0 : restL (m % 10000000) = [] := if_pos h0
    rw [hr0, List.append_nil] at hs2
    have hc := cut_whole (R := []) (by rw [List.append_nil]; exact hs2) hsign hDw noFig_nil
    have hlen : s.size = P.length + D.length := by rw [hsize, hs2, List.length_append]
    have hend : ∀ S, signAt s (P.length + D.length) S = false := fun S => hlen ▸ signAt_end s S
    rw [dot_none (hend _), tail_none (hend _)] at hc
    have hDpos : D.length ≠ 0 := fun e => hDw.ne (List.eq_nil_of_length_eq_zero e)
    have hv0 : m = valL (D ++ []) * 10 ^ (7 - ([] : List UInt8).length) := by
      rw [List.append_nil, hDv]
      show m = _ * 10 ^ 7
      have h7 : (10 : Nat) ^ 7 = 10000000 := by decide
      rw [h7]
      omega
    obtain ⟨v1, v2⟩ := value_exact (signB P) D [] (P.length + D.length) m hDw.figs figs_nil (by simp) hv0 hm9
    exact done _ hc hlen.symm (by omega) (by omega) (by rw [← hsb]; exact v1) v2
  · obtain ⟨R, hR, hRf, hRn, hRl, hRv⟩ := rest_facts (m % 10000000) h0 (Nat.mod_lt _ (by omega))
    rw [hR] at hs2
    have hnf : NoFig (46 :: R) := fun c l e => by injection e with e1 _; rw [← e1]; decide
    have hc := cut_whole hs2 hsign hDw hnf
    have hlen : s.size = P.length + D.length + 1 + R.length := by rw [hsize, hs2]; simp; omega
    have hs3 : s.data.toList = (P ++ D) ++ (46 :: (R ++ [])) := by rw [hs2, List.append_nil, List.append_assoc]
    have hdot := dot_some (b := signB P) (wh := ⟨D.toArray⟩) hs3 hRf hRn noFig_nil
    rw [List.length_append] at hdot
    rw [hdot, tail_none (by rw [← hlen]; exact signAt_end s _)] at hc
    have hval : m = valL (D ++ R) * 10 ^ (7 - R.length) := by
      have ha : valL (D ++ R) = valL D * 10 ^ R.length + valL R := by
        clear hc hdot hs3 hs2 hR hRv hRn hlen
        revert hRf hRl
        refine snoc_induction (P := fun R => Figs R → R.length ≤ 7 → valL (D ++ R) = valL D * 10 ^ R.length + valL R) ?_ (fun l c ih h1 h2 => ?_) R
        · intro _ _
          rw [List.append_nil, show valL [] = 0 from rfl]
          simp
        · have := ih (fun x hx => h1 x (by simp [hx])) (by simp at h2; omega)
          rw [← List.append_assoc, valL_snoc, this, valL_snoc, List.length_append, List.length_singleton, Nat.pow_succ]
          have e : valL D * (10 ^ l.length * 10) = valL D * 10 ^ l.length * 10 := (Nat.mul_assoc _ _ _).symm
          rw [e]
          omega
      rw [ha, Nat.add_mul, ← hRv, Nat.mul_assoc, ← Nat.pow_add, show R.length + (7 - R.length) = 7 by omega, hDv]
      have : (10 : Nat) ^ 7 = 10000000 := by decide
      rw [this]
      omega
    obtain ⟨v1, v2⟩ := value_exact (signB P) D R (P.length + D.length + 1 + R.length) m hDw.figs hRf hRl hval hm9
    exact done _ hc hlen.symm (by omega) (by omega) (by rw [← hsb]; exact v1) v2
/-- Two numbers have one plain text just if they are one. -/
theorem print_inj (a b : Int) (ha : heldB a = true) (hb : heldB b = true) (h : printL a = printL b) : a = b := by
  have h1 := (back_all a ha ⟨(printL a).toArray⟩ (mk_list _)).1
  have h2 := (back_all b hb ⟨(printL a).toArray⟩ ((mk_list _).trans h)).1
  rw [← h1, ← h2]
end Go.Proofs.YtoeddhkbifeamaaDoor
