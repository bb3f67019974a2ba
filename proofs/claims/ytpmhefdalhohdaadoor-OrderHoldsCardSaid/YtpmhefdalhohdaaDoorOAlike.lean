/- json.Same: are two values alike? -/
import Derived.Test.YtpmhefdalhohdaaDoorOCompare2
import Derived.Test.YtpmhefdalhohdaaDoorVAssert
namespace Go.Proofs.YtpmhefdalhohdaaDoor
open Go.RowKit
set_option linter.unusedVariables false

def AlikeC (t : VT) : Prop := ∀ (u : VT) (v1 v2 : Value) (w : World), JV w t v1 → JV w u v2 → Fit t → Fit u →
  Calls Tryd.prog 37 #[v1, v2] w fun e w' => e = .returned (.bool (decide (cmpV t u = 0))) ∧ Below w.heap.size w w'
theorem ret_b {a b : Bool} (h : a = b) : Ending.returned (.bool a) = .returned (.bool b) := by rw [h]
theorem cmpI_zero {a b : Int} : cmpI a b = 0 ↔ a = b := by
  unfold cmpI
  constructor
  · intro h
    split at h
    · omega
    · split at h <;> omega
  · rintro rfl
    rw [if_neg (by omega), if_neg (by omega)]
theorem rowV_zero {p : Nat → Int} {m : Nat} : rowV p m m = 0 ↔ ∀ i, i < m → p i = 0 := by
  unfold rowV
  rw [Nat.min_self]
  constructor
  · intro h i hi
    by_cases z : firstE p m = 0
    · exact firstE_zero z i hi
    · rw [if_pos z] at h; exact absurd h z
  · intro h
    have z := firstE_none h
    rw [if_neg (by omega)]
    exact cmpI_zero.2 rfl
theorem rowV_len {p : Nat → Int} {m m' : Nat} (h : m ≠ m') : rowV p m m' ≠ 0 := by
  unfold rowV
  by_cases z : firstE p (min m m') = 0
  · rw [if_neg (by omega)]
    intro e
    have := cmpI_zero.1 e
    omega
  · rw [if_pos z]; exact z
theorem memC_zero {t u : VT} {a b : ByteArray} : memC t u a b = 0 ↔ a = b ∧ cmpV t u = 0 := by
  unfold memC
  by_cases h : a = b
  · rw [if_neg (fun e => e h)]; exact ⟨fun e => ⟨h, e⟩, fun e => e.2⟩
  · rw [if_pos h]
    exact ⟨fun e => absurd ((name_cmp _ _).2 e) h, fun e => absurd e.1 h⟩
set_option maxHeartbeats 4000000 in
set_option maxRecDepth 100000 in
theorem eq_rows (f f' : Nat → VT) (m m' : Nat) (A B : Option Addr) (c c' : Nat) (w : World) (h1 : ∀ i, i < m → ∃ u, JV w (f i) u ∧ cellAt w A i = some u) (h2 : ∀ i, i < m' → ∃ u, JV w (f' i) u ∧ cellAt w B i = some u) (f1 : ∀ i, i < m → Fit (f i)) (f2 : ∀ i, i < m' → Fit (f' i)) (ih : ∀ i, AlikeC (f i))
    (hmc : m ≤ c) (hc : c ≤ 9223372036854775807) (hmc' : m' ≤ c') (hc' : c' ≤ 9223372036854775807) :
    Calls Tryd.prog 57 #[.slice A m c, .slice B m' c', .func (.func 37) #[] #[]] w fun e w' => e = .returned (.bool (decide (rowV (fun i => cmpV (f i) (f' i)) m m' = 0))) ∧ Below w.heap.size w w' := by
  have H1 := Lib.hid h1
  have H2 := Lib.hid h2
  have IH := Lib.hid ih
  have HF1 := Lib.hid f1
  have HF2 := Lib.hid f2
  clear h1 h2 ih f1 f2
  by_cases hm : m = m'
  case neg =>
    have HE := Lib.hid (decide_eq_false (rowV_len (p := (fun i => cmpV (f i) (f' i))) hm))
    have e1 : ((m : Int) != (m' : Int)) = true := by simp; omega
    clear hm
    go_enter Tryd.func57, Tryd.ntmps57
    go_wp2_with fail
    go_ret
    exact ⟨ret_b (by rw [HE.out]), Below.refl _ _⟩
  subst hm
  have e1 : ((m : Int) != (m : Int)) = false := by simp
  go_enter Tryd.func57, Tryd.ntmps57
  go_wp2_with fail
  go_loopw [17] (fun i wr => ∃ j : Nat, j ≤ m ∧ i = .int .i64 j ∧ (∀ i, i < j → (fun i => cmpV (f i) (f' i)) i = 0) ∧ Below w.heap.size w wr) (fun i _ => m - (intOf i).toNat)
  case atStart => exact ⟨0, by omega, rfl, fun i hi => absurd hi (by omega), Below.refl _ _⟩
  case round =>
    obtain ⟨j, hj, rfl, hz, hb⟩ := hrel
    have HZ := Lib.hid hz
    have HB := Lib.hid hb
    clear hz hb
    by_cases hlt : j < m
    · obtain ⟨u1, a1, a2⟩ := H1.out j hlt
      obtain ⟨u2, b1, b2⟩ := H2.out j hlt
      obtain ⟨xb, o, rfl⟩ := cellAt_inv a2
      obtain ⟨yb, p, rfl⟩ := cellAt_inv b2
      rw [cellAt_some] at a2 b2
      have n1 := KeepC.below HB.out _ _ a2
      have n2 := KeepC.below HB.out _ _ b2
      obtain ⟨R, hR⟩ : ∃ R, R = cmpV (f j) (f' j) := ⟨_, rfl⟩
      have HR := Lib.hid hR
      have C0 := IH.out j (f' j) u1 u2 wr (a1.below HB.out) (b1.below HB.out) (HF1.out j hlt) (HF2.out j hlt)
      rw [← hR] at C0
      have C := Lib.hid C0
      have A2 := Lib.hid a2
      have B2 := Lib.hid b2
      clear C0 hR a1 b1 a2 b2
      by_cases h0 : R = 0
      · have HR0 := Lib.hid (show (fun i => cmpV (f i) (f' i)) j = 0 from HR.out.symm.trans h0)
        have q1 : decide (R = 0) = true := decide_eq_true h0
        clear h0
        go_wp2_with fail
        refine C.out.mono ?_
        rintro e w2 ⟨rfl, l2⟩
        have B3 := Lib.hid (HB.out.trans (l2.mono HB.out.size))
        clear l2
        go_wp2_with fail
        go_roundw
        case rel => exact ⟨j + 1, by omega, by go_num, fun i hi => by
          rcases Nat.lt_or_ge i j with h | h
          · exact HZ.out i h
          · obtain rfl : i = j := by omega
            exact HR0.out, B3.out⟩
        case measure => simp [intOf]; omega
      · have HE := Lib.hid (decide_eq_false (fun e => h0 (HR.out.trans ((rowV_zero (p := (fun i => cmpV (f i) (f' i))) (m := m)).1 e j hlt))))
        have q1 : decide (R = 0) = false := decide_eq_false h0
        clear h0
        go_wp2_with fail
        refine C.out.mono ?_
        rintro e w2 ⟨rfl, l2⟩
        have B3 := Lib.hid (HB.out.trans (l2.mono HB.out.size))
        clear l2
        go_wp2_with fail
        go_ret
        exact ⟨ret_b (by rw [HE.out]), B3.out⟩
    · obtain rfl : j = m := by omega
      have HE := Lib.hid (decide_eq_true ((rowV_zero (p := (fun i => cmpV (f i) (f' i))) (m := j)).2 HZ.out))
      go_wp2_with fail
      go_ret
      exact ⟨ret_b (by rw [HE.out]), HB.out⟩
set_option maxHeartbeats 4000000 in
set_option maxRecDepth 100000 in
theorem alike_mem (t u : VT) (a b : ByteArray) (v1 v2 : Value) (w : World) (h1 : JV w t v1) (h2 : JV w u v2) (f1 : Fit t) (f2 : Fit u) (ih : AlikeC t) :
    Calls Tryd.prog 59 #[.agg #[.string a, v1], .agg #[.string b, v2]] w fun e w' => e = .returned (.bool (decide (memC t u a b = 0))) ∧ Below w.heap.size w w' := by
  have L := Lib.hid (((Below.refl w.heap.size w).alloc (Nat.le_refl _) (.cells #[.string a, v1] 58)).alloc (by simp) (.cells #[.string b, v2] 58))
  have C := Lib.hid (ih u v1 v2 _ (h1.below L.out) (h2.below L.out) f1 f2)
  clear h1 h2
  by_cases hn : a = b
  · have e1 : (a.toList == b.toList) = true := by rw [hn]; simp
    have HE := Lib.hid (show decide (memC t u a b = 0) = decide (cmpV t u = 0) from decide_eq_decide.2 ⟨fun e => (memC_zero.1 e).2, fun e => memC_zero.2 ⟨hn, e⟩⟩)
    clear hn
    go_enter Tryd.func59, Tryd.ntmps59
    go_wp2_with fail
    refine C.out.mono ?_
    rintro e w2 ⟨rfl, l2⟩
    have HL2 := Lib.hid l2
    clear l2
    go_wp2_with fail
    go_ret
    exact ⟨ret_b (by rw [HE.out]), L.out.trans (HL2.out.mono L.out.size)⟩
  · have e1 : (a.toList == b.toList) = false := by
      rw [eq_s]
      exact decide_eq_false fun e => hn ((name_cmp _ _).2 e)
    have HE := Lib.hid (show decide (memC t u a b = 0) = false from decide_eq_false fun e => hn (memC_zero.1 e).1)
    clear hn
    go_enter Tryd.func59, Tryd.ntmps59
    go_wp2_with fail
    go_ret
    exact ⟨ret_b (by rw [HE.out]), L.out⟩
end Go.Proofs.YtpmhefdalhohdaaDoor
