/- stem's endsAlike and endsInCvc. -/
import Derived.Test.YtoainljghfldlaaSSuf
import Derived.Deep.RegionHeldLaw
import Derived.BigRegion
namespace Go.Proofs.Ytoainljghfldlaa
open Go.RowKit
set_option linter.unusedVariables false
set_option linter.unusedSimpArgs false

open Go.Shelf
attribute [local go_sem] Oper.semAt_some
theorem rd1 (W : World) (x : Bool) (g : Nat) (h : W.cell? ⟨g, 0, none⟩ = some (.bool x)) : RdB W (some ⟨g, 0, none⟩) [x] := fun _ => ⟨g, 0, rfl, fun i y hi => by
  rcases i with _ | i
  · simp at hi; subst hi; exact h
  · simp at hi⟩
theorem rd3 (W : World) (x y z : Bool) (g : Nat) (h0 : W.cell? ⟨g, 0, none⟩ = some (.bool x)) (h1 : W.cell? ⟨g, 1, none⟩ = some (.bool y)) (h2 : W.cell? ⟨g, 2, none⟩ = some (.bool z)) : RdB W (some ⟨g, 0, none⟩) [x, y, z] := fun _ => ⟨g, 0, rfl, fun i v hi => by
  rw [Nat.zero_add]
  rcases i with _ | _ | _ | i
  · simp at hi; subst hi; exact h0
  · simp at hi; subst hi; exact h1
  · simp at hi; subst hi; exact h2
  · simp at hi⟩
theorem byte_at (t : List UInt8) (i : Nat) (h : i < t.length) (hs : i < (mkB t).size) : (mkB t)[i] = t.getD i 0 := by
  simp [mkB, ByteArray.getElem_eq_getElem_data, List.getD, h]
theorem alike_no {t : List UInt8} (h : ¬ 2 ≤ t.length) : alikeL t = false := by unfold alikeL; rw [decide_eq_false h]; rfl
theorem alike_ne {t : List UInt8} (h : t.getD (t.length - 1) 0 ≠ t.getD (t.length - 2) 0) : alikeL t = false := by
  unfold alikeL
  rw [beq_eq_false_iff_ne.2 h]
  simp
theorem alike_eq {t : List UInt8} (h0 : 2 ≤ t.length) (h : t.getD (t.length - 1) 0 = t.getD (t.length - 2) 0) : alikeL t = endsSoL t [false] := by
  unfold alikeL
  rw [decide_eq_true h0, h]
  simp
set_option maxRecDepth 100000 in
set_option maxHeartbeats 8000000 in
theorem alike_any (t : List UInt8) (ht : t.length ≤ 1000000) (w : World) : Calls Try.prog 37 #[.string (mkB t)] w fun e w' => e = .returned (.bool (alikeL t)) ∧ Below w.heap.size w w' := by
  have h1 := mkB_size t
  have KS := Lib.hid fun W g c h => endsSo_any t ht [false] (some ⟨g, 0, none⟩) c (by decide) (by decide) W (rd1 W false g h)
  have HX := Lib.hid (byte_at t)
  by_cases hl : 2 ≤ t.length
  · have HA := Lib.hid (HX.out (t.length - 1) (by omega) (by omega))
    have HA2 := Lib.hid (HX.out (t.length - 2) (by omega) (by omega))
    obtain ⟨bt, hbt⟩ : ∃ b, b = mkB t := ⟨_, rfl⟩
    have hAe : ∀ h, (bt[bt.size - 1]'h) = t.getD (t.length - 1) 0 := by subst hbt; intro h; simp only [h1]; exact HA.out
    have hAe2 : ∀ h, (bt[bt.size - 2]'h) = t.getD (t.length - 2) 0 := by subst hbt; intro h; simp only [h1]; exact HA2.out
    rw [← hbt] at h1 KS ⊢
    have hs : 2 ≤ bt.size := by omega
    have hb : bt.size ≤ 1000000 := by omega
    have hw1 : IntKind.i64.wrap ((bt.size : Int) - 1) = (bt.size : Int) - 1 := IntWalk.i64_in _ (by omega)
    have hw2 : IntKind.i64.wrap ((bt.size : Int) - 2) = (bt.size : Int) - 2 := IntWalk.i64_in _ (by omega)
    have ht1 : ((bt.size : Int) - 1).toNat = bt.size - 1 := by omega
    have ht2 : ((bt.size : Int) - 2).toNat = bt.size - 2 := by omega
    have hp1 : (0 : Int) ≤ (bt.size : Int) - 1 := by omega
    have hp2 : (0 : Int) ≤ (bt.size : Int) - 2 := by omega
    have hd : decide ((2 : Int) ≤ (bt.size : Int)) = true := by simp; omega
    by_cases he : t.getD (t.length - 1) 0 = t.getD (t.length - 2) 0
    · have HE := Lib.hid (alike_eq hl he)
      rw [he] at hAe
      obtain ⟨x, hx⟩ : ∃ x, x = t.getD (t.length - 2) 0 := ⟨_, rfl⟩
      rw [← hx] at hAe hAe2
      clear hbt h1 hl HX HA HA2 hx he
      go_enter Try.func37, Try.ntmps37
      go_wp2
      go_region_held_law (fun W => True) (trivial) ((go_at_call 40; refine (KS.out _ _ _ (by go_simp)).mono ?_; rintro e w' ⟨rfl, hb5⟩; have HB5 := Lib.hid hb5; clear hb5))
      all_goals go_wp2
      all_goals go_ret
      all_goals exact ⟨by rw [HE.out]; rfl, (below_drewN ((Below.refl w.heap.size w).alloc (Nat.le_refl _) (.cells #[.bool false] 4)) 1).trans (HB5.out.mono (by show w.heap.size ≤ (w.alloc _).heap.size; simp))⟩
    · have HE := Lib.hid (alike_ne he)
      obtain ⟨x, hx⟩ : ∃ x, x = t.getD (t.length - 2) 0 := ⟨_, rfl⟩
      obtain ⟨y, hy⟩ : ∃ x, x = t.getD (t.length - 1) 0 := ⟨_, rfl⟩
      rw [← hx] at hAe2 he
      rw [← hy] at hAe he
      have hne : ((y.toNat : Int) == (x.toNat : Int)) = false := by
        simp only [beq_eq_false_iff_ne]
        intro h
        exact he (UInt8.toNat_inj.1 (by omega))
      clear hbt h1 hl HX HA HA2 hx he hy
      go_enter Try.func37, Try.ntmps37
      go_wp2
      go_quiet (fail)
      go_wp2
      go_ret
      exact ⟨by rw [HE.out]; rfl, below_drewN (Below.refl _ _) _⟩
  · have HE := Lib.hid (alike_no hl)
    obtain ⟨bt, hbt⟩ : ∃ b, b = mkB t := ⟨_, rfl⟩
    rw [← hbt] at h1 ⊢
    have hs : ¬ 2 ≤ bt.size := by omega
    have hsd : decide (2 ≤ bt.size) = false := by simp; omega
    have hsi : decide ((2 : Int) ≤ (bt.size : Int)) = false := by simp; omega
    clear hbt h1 hl HX KS
    go_enter Try.func37, Try.ntmps37
    go_wp2
    go_quiet (fail)
    go_wp2
    go_ret
    exact ⟨by rw [HE.out]; rfl, below_drewN (Below.refl _ _) _⟩
theorem cvc_no {t : List UInt8} (h : endsSoL t [false, true, false] = false) : cvcL t = false := by unfold cvcL; rw [h]; rfl
theorem cvc_yes {t : List UInt8} (h : endsSoL t [false, true, false] = true) : cvcL t = !endsAny t [[119], [120], [121]] := by unfold cvcL; rw [h]; rfl
theorem rdS2 (W : World) (x y : List UInt8) (g : Nat) (h0 : W.cell? ⟨g, 0, none⟩ = some (.string (mkB x))) (h1 : W.cell? ⟨g, 1, none⟩ = some (.string (mkB y))) : RdS W g [x, y] := fun i v hi => by
  rcases i with _ | _ | i
  · simp at hi; subst hi; exact h0
  · simp at hi; subst hi; exact h1
  · simp at hi
theorem rdS3 (W : World) (x y z : List UInt8) (g : Nat) (h0 : W.cell? ⟨g, 0, none⟩ = some (.string (mkB x))) (h1 : W.cell? ⟨g, 1, none⟩ = some (.string (mkB y))) (h2 : W.cell? ⟨g, 2, none⟩ = some (.string (mkB z))) : RdS W g [x, y, z] := fun i v hi => by
  rcases i with _ | _ | _ | i
  · simp at hi; subst hi; exact h0
  · simp at hi; subst hi; exact h1
  · simp at hi; subst hi; exact h2
  · simp at hi
set_option maxRecDepth 100000 in
set_option maxHeartbeats 8000000 in
theorem cvc_any (t : List UInt8) (ht : t.length ≤ 1000000) (w : World) : Calls Try.prog 33 #[.string (mkB t)] w fun e w' => e = .returned (.bool (cvcL t)) ∧ Below w.heap.size w w' := by
  have KS := Lib.hid fun W g c h0 h1 h2 => endsSo_any t ht [false, true, false] (some ⟨g, 0, none⟩) c (by decide) (by decide) W (rd3 W false true false g h0 h1 h2)
  have KE := Lib.hid fun W g c h0 h1 h2 => endsAny_any t (by omega) [[119], [120], [121]] (by decide) (by decide) g c W (rdS3 W [119] [120] [121] g h0 h1 h2)
  have HB1 := Lib.hid ((Below.refl w.heap.size w).alloc (Nat.le_refl _) (.cells #[.bool false, .bool true, .bool false] 4))
  cases hs : endsSoL t [false, true, false]
  · have HE := Lib.hid (cvc_no hs)
    rw [hs] at KS
    clear hs
    go_enter Try.func33, Try.ntmps33
    go_wp2_with (go_at_call 40; refine (KS.out _ _ _ (by go_simp) (by go_simp) (by go_simp)).mono ?_; rintro e w1 ⟨rfl, hb1⟩; have HB2 := Lib.hid hb1; clear hb1)
    go_ret
    exact ⟨by rw [HE.out]; rfl, HB1.out.trans (HB2.out.mono (by simp))⟩
  · have HE := Lib.hid (cvc_yes hs)
    rw [hs] at KS
    clear hs
    go_enter Try.func33, Try.ntmps33
    go_wp2_with (first
      | (go_at_call 40; refine (KS.out _ _ _ (by go_simp) (by go_simp) (by go_simp)).mono ?_; rintro e w1 ⟨rfl, hb1⟩; have HB2 := Lib.hid hb1; clear hb1)
      | (go_at_call 31; refine (KE.out _ _ _ (by go_simp <;> rfl) (by go_simp <;> rfl) (by go_simp <;> rfl)).mono ?_; rintro e w2 ⟨rfl, hb2⟩; have HB3 := Lib.hid hb2; clear hb2))
    go_ret
    exact ⟨by rw [HE.out]; rfl, HB1.out.trans ((HB2.out.mono (by simp)).trans (((Below.refl _ _).alloc (by have := HB2.out.size; simp at this; omega) _).trans (HB3.out.mono (by have := HB2.out.size; simp at this ⊢; omega))))⟩
end Go.Proofs.Ytoainljghfldlaa
