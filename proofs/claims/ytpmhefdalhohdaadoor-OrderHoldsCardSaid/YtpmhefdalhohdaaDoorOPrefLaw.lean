/- OrderPrefix: the walk. -/
import Derived.Test.YtpmhefdalhohdaaDoorOAwake
import Derived.Deep.QuietTactic
import Derived.BigQuiet
namespace Go.Proofs.YtpmhefdalhohdaaDoor
open Go.RowKit
set_option linter.unusedVariables false

theorem ba_list (a b : List UInt8) : ((⟨a.toArray⟩ : ByteArray).toList == (⟨b.toArray⟩ : ByteArray).toList) = decide (a = b) := by
  rw [ByteArray.toList_eq, ByteArray.toList_eq]
  show (a.toArray.toList == b.toArray.toList) = _
  by_cases h : a = b <;> simp [h]
/-- Is a list of bytes ahead of another one? -/
def ltL (a b : List UInt8) : Bool := decide (cmpS a b < 0)
theorem less_list (a b : List UInt8) : Op.bytesLess (⟨a.toArray⟩ : ByteArray).toList (⟨b.toArray⟩ : ByteArray).toList = ltL a b := by
  rw [ByteArray.toList_eq, ByteArray.toList_eq]
  exact less_cmp _ _
theorem lt_cons (x y : UInt8) (a b : List UInt8) : ltL (x :: a) (y :: b) = if x < y then true else if y < x then false else ltL a b := by
  unfold ltL
  rw [cmpS]
  split
  · rfl
  · split <;> rfl
theorem lt_irr (a : List UInt8) : ltL a a = false := by unfold ltL; rw [cmpS_self]; rfl
/-- Does a list begin with another one? -/
def begB (l o : List UInt8) : Bool := decide (l <+: o)
/-- What stands below a list whose last byte is raised: what stands below the list, and what begins with it. -/
theorem lt_up : ∀ (a : List UInt8) (x : UInt8) (o : List UInt8), x.toNat < 255 → ltL o (a ++ [UInt8.ofNat (x.toNat + 1)]) = (ltL o (a ++ [x]) || begB (a ++ [x]) o)
  | [], x, [], hx => by simp [ltL, cmpS]
  | [], x, c :: o, hx => by
    have e : (UInt8.ofNat (x.toNat + 1)).toNat = x.toNat + 1 := by simp; omega
    rw [List.nil_append, List.nil_append, lt_cons, lt_cons]
    have n1 : ltL o [] = false := by cases o <;> simp [ltL, cmpS]
    have b1 : begB [x] (c :: o) = decide (x = c) := by
      unfold begB
      simp [List.cons_prefix_cons]
    rw [n1, b1]
    by_cases h1 : c < x
    · have : c < UInt8.ofNat (x.toNat + 1) := by rw [UInt8.lt_iff_toNat_lt, e]; rw [UInt8.lt_iff_toNat_lt] at h1; omega
      rw [if_pos this, if_pos h1]; rfl
    · by_cases h2 : x = c
      · subst h2
        have : x < UInt8.ofNat (x.toNat + 1) := by rw [UInt8.lt_iff_toNat_lt, e]; omega
        rw [if_pos this]; simp
      · have h3 : x < c := by
          rcases u8_tri c x with t | t | t
          · exact absurd t.1 h1
          · exact t.1
          · exact absurd t.1.symm h2
        have : ¬ c < UInt8.ofNat (x.toNat + 1) := by rw [UInt8.lt_iff_toNat_lt, e]; rw [UInt8.lt_iff_toNat_lt] at h3; omega
        rw [if_neg this, if_neg h1, if_pos h3]
        simp [h2]
  | a :: r, x, [], hx => by simp [ltL, cmpS]
  | a :: r, x, c :: o, hx => by
    have ih := lt_up r x o hx
    rw [List.cons_append, List.cons_append, lt_cons, lt_cons, ih]
    have b1 : begB (a :: (r ++ [x])) (c :: o) = (decide (a = c) && begB (r ++ [x]) o) := by
      unfold begB
      simp [List.cons_prefix_cons]
    rw [b1]
    rcases u8_tri c a with t | t | t
    · rw [if_pos t.1, if_pos t.1]; rfl
    · rw [if_neg t.2.1, if_neg t.2.1, if_pos t.1, if_pos t.1]; rw [decide_eq_false (fun e => t.2.2 e.symm)]; simp
    · rw [if_neg t.2.1, if_neg t.2.1, if_neg t.2.2, if_neg t.2.2]; simp [t.1]
theorem nil_up (o : List UInt8) : (ltL o [] || begB [] o) = true := by simp [begB]
theorem lt_strip : ∀ (a b o : List UInt8), (∀ x ∈ b, x = 255) → (ltL o (a ++ b) || begB (a ++ b) o) = (ltL o a || begB a o)
  | a, [], o, _ => by rw [List.append_nil]
  | [], y :: b, [], h => by rw [nil_up]; simp [ltL, cmpS]
  | [], y :: b, c :: o, h => by
    rw [nil_up, List.nil_append]
    have hy := h y (by simp)
    subst hy
    have ih := lt_strip [] b o (fun x hx => h x (by simp [hx]))
    rw [nil_up, List.nil_append] at ih
    have b1 : begB (255 :: b) (c :: o) = (decide ((255 : UInt8) = c) && begB b o) := by
      unfold begB
      simp [List.cons_prefix_cons]
    rw [lt_cons, b1]
    rcases u8_tri c 255 with t | t | t
    · rw [if_pos t.1]; rfl
    · have := UInt8.lt_iff_toNat_lt.1 t.1
      have h2 : c.toNat < 256 := UInt8.toNat_lt c
      simp at this
      omega
    · rw [if_neg t.2.1, if_neg t.2.2]
      rw [t.1] at *
      simpa using ih
  | a :: r, y :: b, [], h => by simp [ltL, cmpS]
  | a :: r, y :: b, c :: o, h => by
    have ih := lt_strip r (y :: b) o h
    have b1 : ∀ z, begB (a :: z) (c :: o) = (decide (a = c) && begB z o) := fun z => by
      unfold begB
      simp [List.cons_prefix_cons]
    rw [List.cons_append, lt_cons, lt_cons, b1, b1]
    rcases u8_tri c a with t | t | t
    · rw [if_pos t.1, if_pos t.1]; rfl
    · rw [if_neg t.2.1, if_neg t.2.1, if_pos t.1, if_pos t.1]; rw [decide_eq_false (fun e => t.2.2 e.symm)]; simp
    · rw [if_neg t.2.1, if_neg t.2.1, if_neg t.2.2, if_neg t.2.2]
      simpa [t.1] using ih
theorem strip_tail (l : List UInt8) : ∀ n j, stripN l n ≤ j → j < n → lF l j = 255
  | 0, j, _, h => absurd h (by omega)
  | n + 1, j, h, h2 => by
    rw [stripN] at h
    split at h
    · rename_i h3
      rcases Nat.lt_or_ge j n with q | q
      · exact strip_tail l n j h q
      · have : j = n := by omega
        rw [this]; exact h3
    · omega
theorem prefix_law (l : List UInt8) (h : stripN l l.length ≠ 0) (o : List UInt8) : ltL o (prefixL l) = (ltL o l || begB l o) := by
  have hle := stripN_le l l.length
  have hlast := stripN_last l l.length h
  have htail := strip_tail l l.length
  unfold prefixL
  rw [if_neg h]
  generalize hk : stripN l l.length = k at *
  obtain ⟨j, rfl⟩ : ∃ j, k = j + 1 := ⟨k - 1, by omega⟩
  have hj : j < l.length := by omega
  have hx : (l[j]).toNat = lF l j := by unfold lF; rw [List.getD_eq_getElem?_getD, List.getElem?_eq_getElem hj]; rfl
  rw [Nat.add_sub_cancel] at hlast ⊢
  have h256 := lF_lt l j
  have e1 : l = (l.take j ++ [l[j]]) ++ l.drop (j + 1) := by
    rw [show l.take j ++ [l[j]] = l.take (j + 1) by rw [List.take_add_one, List.getElem?_eq_getElem hj]; rfl, List.take_append_drop]
  rw [← hx, lt_up (l.take j) l[j] o (by omega), ← lt_strip (l.take j ++ [l[j]]) (l.drop (j + 1)) o, ← e1]
  intro x hxm
  obtain ⟨i, hi, hxi⟩ := List.getElem_of_mem hxm
  have hi2 : j + 1 + i < l.length := by simp at hi; omega
  have := htail (j + 1 + i) (by omega) hi2
  rw [List.getElem_drop] at hxi
  have h3 : (l[j + 1 + i]).toNat = lF l (j + 1 + i) := by unfold lF; rw [List.getD_eq_getElem?_getD, List.getElem?_eq_getElem hi2]; rfl
  rw [← hxi]
  apply UInt8.toNat_inj.1
  rw [h3, this]
  rfl
end Go.Proofs.YtpmhefdalhohdaaDoor
