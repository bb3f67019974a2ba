/- json.Same: rows of members. -/
import Derived.Test.YtpmhefdalhohdaaDoorOAlike
namespace Go.Proofs.YtpmhefdalhohdaaDoor
open Go.RowKit
set_option linter.unusedVariables false

set_option maxHeartbeats 4000000 in
set_option maxRecDepth 100000 in
theorem eq_mem (f f' : Nat → VT) (g g' : Nat → ByteArray) (m m' : Nat) (A B : Option Addr) (c c' : Nat) (w : World) (h1 : ∀ i, i < m → cellAt w A (2 * i) = some (.string (g i)) ∧ ∃ u, JV w (f i) u ∧ cellAt w A (2 * i + 1) = some u) (h2 : ∀ i, i < m' → cellAt w B (2 * i) = some (.string (g' i)) ∧ ∃ u, JV w (f' i) u ∧ cellAt w B (2 * i + 1) = some u) (f1 : ∀ i, i < m → Fit (f i)) (f2 : ∀ i, i < m' → Fit (f' i)) (ih : ∀ i, AlikeC (f i))
    (hmc : m ≤ c) (hc : c ≤ 9223372036854775807) (hmc' : m' ≤ c') (hc' : c' ≤ 9223372036854775807) :
    Calls Tryd.prog 58 #[.slice A m c, .slice B m' c', .func (.func 59) #[] #[]] w fun e w' => e = .returned (.bool (decide (rowV (fun i => memC (f i) (f' i) (g i) (g' i)) m m' = 0))) ∧ Below w.heap.size w w' := by
  have H1 := Lib.hid h1
  have H2 := Lib.hid h2
  have IH := Lib.hid ih
  have HF1 := Lib.hid f1
  have HF2 := Lib.hid f2
  clear h1 h2 ih f1 f2
  by_cases hm : m = m'
  case neg =>
    have HE := Lib.hid (decide_eq_false (rowV_len (p := (fun i => memC (f i) (f' i) (g i) (g' i))) hm))
    have e1 : ((m : Int) != (m' : Int)) = true := by simp; omega
    clear hm
    go_enter Tryd.func58, Tryd.ntmps58
    go_wp2_with fail
    go_ret
    exact ⟨ret_b (by rw [HE.out]), Below.refl _ _⟩
  subst hm
  have e1 : ((m : Int) != (m : Int)) = false := by simp
  go_enter Tryd.func58, Tryd.ntmps58
  go_wp2_with fail
  go_loopw [17] (fun i wr => ∃ j : Nat, j ≤ m ∧ i = .int .i64 j ∧ (∀ i, i < j → (fun i => memC (f i) (f' i) (g i) (g' i)) i = 0) ∧ Below w.heap.size w wr) (fun i _ => m - (intOf i).toNat)
  case atStart => exact ⟨0, by omega, rfl, fun i hi => absurd hi (by omega), Below.refl _ _⟩
  case round =>
    obtain ⟨j, hj, rfl, hz, hb⟩ := hrel
    have HZ := Lib.hid hz
    have HB := Lib.hid hb
    clear hz hb
    by_cases hlt : j < m
    · obtain ⟨n1, u1, a1, a2⟩ := H1.out j hlt
      obtain ⟨n2, u2, b1, b2⟩ := H2.out j hlt
      obtain ⟨xb, o, rfl⟩ := cellAt_inv a2
      obtain ⟨yb, p, rfl⟩ := cellAt_inv b2
      rw [cellAt_some, Nat.mul_comm] at n1 n2
      rw [cellAt_some, Nat.mul_comm, ← Nat.add_assoc] at a2 b2
      have x1 := KeepC.below HB.out _ _ n1
      have x2 := KeepC.below HB.out _ _ a2
      have y1 := KeepC.below HB.out _ _ n2
      have y2 := KeepC.below HB.out _ _ b2
      have xlt : xb < wr.heap.size := cell_lt x1
      have ylt : yb < wr.heap.size := cell_lt y1
      have one1 : u1 = .nilIface ∨ ∃ T x, u1 = .iface T x := a1.two
      have one2 : u2 = .nilIface ∨ ∃ T x, u2 = .iface T x := b1.two
      obtain ⟨R, hR⟩ : ∃ R, R = memC (f j) (f' j) (g j) (g' j) := ⟨_, rfl⟩
      have HR := Lib.hid hR
      have C := Lib.hid (show ∀ W : World, Below wr.heap.size wr W → Calls Tryd.prog 59 #[.agg #[.string (g j), u1], .agg #[.string (g' j), u2]] W fun e w' => e = .returned (.bool (decide (R = 0))) ∧ Below W.heap.size W w' from fun W hW => by
        have hb := HB.out.trans (hW.mono HB.out.size)
        rw [hR]
        exact alike_mem (f j) (f' j) (g j) (g' j) u1 u2 W (a1.below hb) (b1.below hb) (HF1.out j hlt) (HF2.out j hlt) (IH.out j))
      have LA := Lib.hid (show ∀ (o1 o2 : Obj), Below wr.heap.size wr ((wr.alloc o1).alloc o2) from fun o1 o2 => ((Below.refl _ _).alloc (Nat.le_refl _) o1).alloc (by simp) o2)
      clear hR a1 b1 a2 b2 n1 n2
      rcases one1 with rfl | ⟨T1, z1, rfl⟩ <;> rcases one2 with rfl | ⟨T2, z2, rfl⟩
      all_goals
        by_cases h0 : R = 0
        · have HR0 := Lib.hid (show (fun i => memC (f i) (f' i) (g i) (g' i)) j = 0 from HR.out.symm.trans h0)
          have q1 : decide (R = 0) = true := decide_eq_true h0
          clear h0
          go_wp2_with fail
          refine (C.out _ (by first | exact LA.out _ _ | exact two_put wr _ _ _ _ _)).mono ?_
          rintro e w2 ⟨rfl, l2⟩
          have B3 := Lib.hid (HB.out.trans (((by first | exact LA.out _ _ | exact two_put wr _ _ _ _ _ : Below wr.heap.size wr _).trans (l2.mono (by simp; try omega))).mono HB.out.size))
          clear l2
          go_wp2_with fail
          go_roundw
          case rel => exact ⟨j + 1, by omega, by go_num, fun i hi => by
            rcases Nat.lt_or_ge i j with h | h
            · exact HZ.out i h
            · obtain rfl : i = j := by omega
              exact HR0.out, B3.out⟩
          case measure => simp [intOf]; omega
        · have HE := Lib.hid (decide_eq_false (fun e => h0 (HR.out.trans ((rowV_zero (p := (fun i => memC (f i) (f' i) (g i) (g' i))) (m := m)).1 e j hlt))))
          have q1 : decide (R = 0) = false := decide_eq_false h0
          clear h0
          go_wp2_with fail
          refine (C.out _ (by first | exact LA.out _ _ | exact two_put wr _ _ _ _ _)).mono ?_
          rintro e w2 ⟨rfl, l2⟩
          have B3 := Lib.hid (HB.out.trans (((by first | exact LA.out _ _ | exact two_put wr _ _ _ _ _ : Below wr.heap.size wr _).trans (l2.mono (by simp; try omega))).mono HB.out.size))
          clear l2
          go_wp2_with fail
          go_ret
          exact ⟨ret_b (by rw [HE.out]), B3.out⟩
    · obtain rfl : j = m := by omega
      have HE := Lib.hid (decide_eq_true ((rowV_zero (p := (fun i => memC (f i) (f' i) (g i) (g' i))) (m := j)).2 HZ.out))
      go_wp2_with fail
      go_ret
      exact ⟨ret_b (by rw [HE.out]), HB.out⟩
end Go.Proofs.YtpmhefdalhohdaaDoor
