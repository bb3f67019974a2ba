/- stem's mended; what the ends ask for. -/
import Derived.Test.YtoainljghfldlaaSAlike
namespace Go.Proofs.Ytoainljghfldlaa
open Go.RowKit
set_option linter.unusedVariables false
set_option linter.unusedSimpArgs false

open Go.Shelf
attribute [local go_sem] Oper.semAt_some
theorem below_3 {w w1 w2 : World} {o : Obj} (a : Below w.heap.size w w1) (b : Below (w1.alloc o).heap.size (w1.alloc o) w2) : Below w.heap.size w w2 :=
  a.trans (((Below.refl _ w1).alloc a.size o).trans (b.mono (by have := a.size; simp; omega)))
def xAny : List (List UInt8) := [[97, 116], [98, 108], [105, 122]]
def yAny : List (List UInt8) := [[108], [115], [122]]
theorem mend_1 {t : List UInt8} (h : endsAny t xAny = true) : mendL t = t ++ [101] := by unfold mendL; rw [if_pos (show endsAny t [[97, 116], [98, 108], [105, 122]] = true from h)]
theorem mend_2 {t : List UInt8} (h : endsAny t xAny = false) (ha : alikeL t = true) (hy : endsAny t yAny = true) : mendL t = t := by
  unfold mendL
  rw [if_neg (by rw [show endsAny t [[97, 116], [98, 108], [105, 122]] = false from h]; decide), if_pos ha, if_pos (show endsAny t [[108], [115], [122]] = true from hy)]
theorem mend_3 {t : List UInt8} (h : endsAny t xAny = false) (ha : alikeL t = true) (hy : endsAny t yAny = false) : mendL t = t.take (t.length - 1) := by
  unfold mendL
  rw [if_neg (by rw [show endsAny t [[97, 116], [98, 108], [105, 122]] = false from h]; decide), if_pos ha, if_neg (by rw [show endsAny t [[108], [115], [122]] = false from hy]; decide)]
theorem mend_4 {t : List UInt8} (h : endsAny t xAny = false) (ha : alikeL t = false) (hm : measL t = 1) (hc : cvcL t = true) : mendL t = t ++ [101] := by
  unfold mendL
  rw [if_neg (by rw [show endsAny t [[97, 116], [98, 108], [105, 122]] = false from h]; decide), if_neg (by rw [ha]; decide), if_pos (by rw [hm, hc]; decide)]
theorem mend_5 {t : List UInt8} (h : endsAny t xAny = false) (ha : alikeL t = false) (hm : measL t = 1) (hc : cvcL t = false) : mendL t = t := by
  unfold mendL
  rw [if_neg (by rw [show endsAny t [[97, 116], [98, 108], [105, 122]] = false from h]; decide), if_neg (by rw [ha]; decide), if_neg (by rw [hm, hc]; decide)]
theorem mend_6 {t : List UInt8} (h : endsAny t xAny = false) (ha : alikeL t = false) (hm : measL t ≠ 1) : mendL t = t := by
  unfold mendL
  rw [if_neg (by rw [show endsAny t [[97, 116], [98, 108], [105, 122]] = false from h]; decide), if_neg (by rw [ha]; decide), if_neg (by rw [decide_eq_false hm]; simp)]
theorem alike_2 {t : List UInt8} (ha : alikeL t = true) : 2 ≤ t.length := by
  unfold alikeL at ha
  simp only [Bool.and_eq_true, decide_eq_true_eq] at ha
  exact ha.1.1
set_option maxRecDepth 100000 in
set_option maxHeartbeats 8000000 in
theorem mended_any (t : List UInt8) (ht : t.length ≤ 1000000) (w : World) : Calls Try.prog 29 #[.string (mkB t)] w fun e w' => e = .returned (.string (mkB (mendL t))) ∧ Below w.heap.size w w' := by
  have KE1 := Lib.hid fun W g c h0 h1 h2 => endsAny_any t (by omega) xAny (by decide) (by decide) g c W (rdS3 W [97, 116] [98, 108] [105, 122] g h0 h1 h2)
  have KE2 := Lib.hid fun W g c h0 h1 h2 => endsAny_any t (by omega) yAny (by decide) (by decide) g c W (rdS3 W [108] [115] [122] g h0 h1 h2)
  have KA := Lib.hid fun W => alike_any t ht W
  have KM := Lib.hid fun W => measure_any t ht W
  have KC := Lib.hid fun W => cvc_any t ht W
  have hsz := mkB_size t
  have HML := Lib.hid (meas_le t)
  have B0 := Lib.hid (Below.refl w.heap.size w)
  have HAP := Lib.hid (show mkB t ++ ⟨#[101]⟩ = mkB (t ++ [101]) from mkB_app t [101])
  have HEX := Lib.hid (ext_take t (t.length - 1))
  obtain ⟨bt, hbt⟩ : ∃ b, b = mkB t := ⟨_, rfl⟩
  rw [← hbt] at hsz KE1 KE2 KA KM KC HAP HEX ⊢
  have HBT := Lib.hid hbt
  have hb : bt.size ≤ 1000000 := by omega
  have HSZ := Lib.hid hsz
  clear hbt hsz
  cases h1 : endsAny t xAny
  · rw [h1] at KE1
    cases h2 : alikeL t
    · rw [h2] at KA
      by_cases h3 : measL t = 1
      · rw [h3] at KM
        cases h4 : cvcL t
        · rw [h4] at KC
          have HE := Lib.hid (mend_5 h1 h2 h3 h4)
          clear h1 h2 h3 h4 KE2
          go_enter Try.func29, Try.ntmps29
          go_wp2_with (first
            | (go_at_call 31; refine (KE1.out _ _ _ (by go_simp <;> rfl) (by go_simp <;> rfl) (by go_simp <;> rfl)).mono ?_; rintro e w1 ⟨rfl, hb1⟩; have B1 := Lib.hid (below_3 B0.out hb1); clear hb1)
            | (go_at_call 37; refine (KA.out _).mono ?_; rintro e w2 ⟨rfl, hb1⟩; have B2 := Lib.hid (B1.out.trans (hb1.mono B1.out.size)); clear hb1)
            | (go_at_call 6; refine (KM.out _).mono ?_; rintro e w3 ⟨rfl, hb1⟩; have B3 := Lib.hid (B2.out.trans (hb1.mono B2.out.size)); clear hb1)
            | (go_at_call 33; refine (KC.out _).mono ?_; rintro e w4 ⟨rfl, hb1⟩; have B4 := Lib.hid (B3.out.trans (hb1.mono B3.out.size)); clear hb1))
          go_ret
          exact ⟨by rw [HE.out, ← HBT.out]; rfl, B4.out⟩
        · rw [h4] at KC
          have HE := Lib.hid (mend_4 h1 h2 h3 h4)
          clear h1 h2 h3 h4 KE2
          go_enter Try.func29, Try.ntmps29
          go_wp2_with (first
            | (go_at_call 31; refine (KE1.out _ _ _ (by go_simp <;> rfl) (by go_simp <;> rfl) (by go_simp <;> rfl)).mono ?_; rintro e w1 ⟨rfl, hb1⟩; have B1 := Lib.hid (below_3 B0.out hb1); clear hb1)
            | (go_at_call 37; refine (KA.out _).mono ?_; rintro e w2 ⟨rfl, hb1⟩; have B2 := Lib.hid (B1.out.trans (hb1.mono B1.out.size)); clear hb1)
            | (go_at_call 6; refine (KM.out _).mono ?_; rintro e w3 ⟨rfl, hb1⟩; have B3 := Lib.hid (B2.out.trans (hb1.mono B2.out.size)); clear hb1)
            | (go_at_call 33; refine (KC.out _).mono ?_; rintro e w4 ⟨rfl, hb1⟩; have B4 := Lib.hid (B3.out.trans (hb1.mono B3.out.size)); clear hb1))
          go_ret
          exact ⟨by rw [HE.out, ← HAP.out]; rfl, B4.out⟩
      · have HE := Lib.hid (mend_6 h1 h2 h3)
        have hne : (((measL t : Nat) : Int) == 1) = false := by simp; omega
        obtain ⟨m, hm⟩ : ∃ m, m = measL t := ⟨_, rfl⟩
        rw [← hm] at KM hne
        clear h1 h2 h3 KE2 hm
        go_enter Try.func29, Try.ntmps29
        go_wp2_with (first
            | (go_at_call 31; refine (KE1.out _ _ _ (by go_simp <;> rfl) (by go_simp <;> rfl) (by go_simp <;> rfl)).mono ?_; rintro e w1 ⟨rfl, hb1⟩; have B1 := Lib.hid (below_3 B0.out hb1); clear hb1)
            | (go_at_call 37; refine (KA.out _).mono ?_; rintro e w2 ⟨rfl, hb1⟩; have B2 := Lib.hid (B1.out.trans (hb1.mono B1.out.size)); clear hb1)
            | (go_at_call 6; refine (KM.out _).mono ?_; rintro e w3 ⟨rfl, hb1⟩; have B3 := Lib.hid (B2.out.trans (hb1.mono B2.out.size)); clear hb1))
        go_ret
        exact ⟨by rw [HE.out, ← HBT.out]; rfl, B3.out⟩
    · rw [h2] at KA
      have h22 := alike_2 h2
      cases h3 : endsAny t yAny
      · rw [h3] at KE2
        have HE := Lib.hid (mend_3 h1 h2 h3)
        have hb2 : 2 ≤ bt.size := by rw [HSZ.out]; exact h22
        clear h1 h2 h3 h22
        go_enter Try.func29, Try.ntmps29
        go_wp2_with (first
            | (go_at_call 31; refine (KE1.out _ _ _ (by go_simp <;> rfl) (by go_simp <;> rfl) (by go_simp <;> rfl)).mono ?_; rintro e w1 ⟨rfl, hb1⟩; have B1 := Lib.hid (below_3 B0.out hb1); clear hb1)
            | (go_at_call 37; refine (KA.out _).mono ?_; rintro e w2 ⟨rfl, hb1⟩; have B2 := Lib.hid (B1.out.trans (hb1.mono B1.out.size)); clear hb1)
            | (go_at_call 31; refine (KE2.out _ _ _ (by go_simp <;> rfl) (by go_simp <;> rfl) (by go_simp <;> rfl)).mono ?_; rintro e w3 ⟨rfl, hb1⟩; have B3 := Lib.hid (below_3 B2.out hb1); clear hb1))
        go_ret
        exact ⟨by rw [HE.out, ← HEX.out, ← HSZ.out]; rfl, B3.out⟩
      · rw [h3] at KE2
        have HE := Lib.hid (mend_2 h1 h2 h3)
        clear h1 h2 h3 h22
        go_enter Try.func29, Try.ntmps29
        go_wp2_with (first
            | (go_at_call 31; refine (KE1.out _ _ _ (by go_simp <;> rfl) (by go_simp <;> rfl) (by go_simp <;> rfl)).mono ?_; rintro e w1 ⟨rfl, hb1⟩; have B1 := Lib.hid (below_3 B0.out hb1); clear hb1)
            | (go_at_call 37; refine (KA.out _).mono ?_; rintro e w2 ⟨rfl, hb1⟩; have B2 := Lib.hid (B1.out.trans (hb1.mono B1.out.size)); clear hb1)
            | (go_at_call 31; refine (KE2.out _ _ _ (by go_simp <;> rfl) (by go_simp <;> rfl) (by go_simp <;> rfl)).mono ?_; rintro e w3 ⟨rfl, hb1⟩; have B3 := Lib.hid (below_3 B2.out hb1); clear hb1))
        go_ret
        exact ⟨by rw [HE.out, ← HBT.out]; rfl, B3.out⟩
  · rw [h1] at KE1
    have HE := Lib.hid (mend_1 h1)
    clear h1 KE2
    go_enter Try.func29, Try.ntmps29
    go_wp2_with (go_at_call 31; refine (KE1.out _ _ _ (by go_simp <;> rfl) (by go_simp <;> rfl) (by go_simp <;> rfl)).mono ?_; rintro e w1 ⟨rfl, hb1⟩; have B1 := Lib.hid (below_3 B0.out hb1); clear hb1)
    go_ret
    exact ⟨by rw [HE.out, ← HAP.out]; rfl, B1.out⟩
end Go.Proofs.Ytoainljghfldlaa
