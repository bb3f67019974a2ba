/- StemPlural: the walk. -/
import Derived.Test.YtoainljghfldlaaSShort
namespace Go.Proofs.Ytoainljghfldlaa
open Go.RowKit
set_option linter.unusedVariables false
set_option linter.unusedSimpArgs false

open Go.Shelf
attribute [local go_sem] Oper.semAt_some
theorem ext_list (t : List UInt8) (k : Nat) : ((mkB t).extract k t.length).toList = t.drop k := by
  rw [ext_drop, ByteArray.toList_eq]
  simp [mkB]
set_option maxRecDepth 100000 in
set_option maxHeartbeats 8000000 in
theorem stemPlural_walk (t : List UInt8) (hm : (mkB t).size ≤ maxLen) (w : World) : Calls Try.prog 5 #[.string (mkB t)] w fun e w' => e = .returned (.bool true) ∧ Below w.heap.size w w' := by
  unfold maxLen at hm
  have hsz := mkB_size t
  by_cases hl : t.length ≤ 200
  · have KS := Lib.hid fun W => stem_any t (by omega) W
    have KP := Lib.hid fun W => plain_any t (by omega) W
    have KA := Lib.hid fun W => awake_any W
    cases hp : mayB t
    · rw [hp] at KP
      obtain ⟨bt, hbt⟩ : ∃ b, b = mkB t := ⟨_, rfl⟩
      rw [← hbt] at hsz KP hm ⊢
      have hb : bt.size ≤ 200 := by omega
      have hd : decide ((200 : Int) < (bt.size : Int)) = false := by simp; omega
      clear hbt hsz hp KS
      go_enter Try.func5, Try.ntmps5
      go_wp2_with (first
        | (go_at_call 10; refine (KP.out _).mono ?_; rintro _ _ ⟨rfl, rfl⟩)
        | (go_at_call 7; refine (KA.out _).mono ?_; rintro _ w2 ⟨rfl, hb2⟩; have HB2 := Lib.hid hb2; clear hb2))
      go_ret
      exact ⟨rfl, HB2.out⟩
    · have h3 : 3 ≤ t.length := by unfold mayB at hp; simp only [Bool.and_eq_true, decide_eq_true_eq] at hp; exact hp.2
      have HPp := Lib.hid hp
      rw [hp] at KP
      have hA1 := byte_at t (t.length - 1) (by omega) (by omega)
      have hA3 := byte_at t (t.length - 3) (by omega) (by omega)
      have q1 := suf_1 (t := t) (by omega) 115
      have q2 := suf_2 (t := t) (by omega) 105 101
      have q3 := suf_3 h3 115 115 101
      have hdl := ext_list t (t.length - 2)
      obtain ⟨x, hx⟩ : ∃ x, x = t.getD (t.length - 1) 0 := ⟨_, rfl⟩
      obtain ⟨y, hy⟩ : ∃ x, x = t.getD (t.length - 3) 0 := ⟨_, rfl⟩
      obtain ⟨d, hdd⟩ : ∃ d, d = t.drop (t.length - 2) := ⟨_, rfl⟩
      rw [← hx] at hA1 q1
      rw [← hy] at hA3 q3
      rw [← hdd] at q2 q3 hdl
      have KT := Lib.hid fun (h1 : sufB t [115] = false) (h2 : sufB t [105, 101] = false) (h3 : sufB t [115, 115, 101] = false) => (show ∀ W, Calls Try.prog 9 #[.string (mkB t ++ ⟨#[115]⟩)] W fun e w' => e = .returned (.string (mkB (stemL t))) ∧ Below W.heap.size W w' from fun W => by
        have := stem_any (t ++ [115]) (by simp; omega) W
        rw [stem_plural hp h1 h2 h3, ← mkB_app] at this
        exact this)
      obtain ⟨bt, hbt⟩ : ∃ b, b = mkB t := ⟨_, rfl⟩
      obtain ⟨bs, hbs⟩ : ∃ b, b = mkB (stemL t) := ⟨_, rfl⟩
      have hAe1 : ∀ h, (bt[bt.size - 1]'h) = x := by subst hbt; intro h; simp only [hsz]; exact hA1
      have hAe3 : ∀ h, (bt[bt.size - 3]'h) = y := by subst hbt; intro h; simp only [hsz]; exact hA3
      have hD : (bt.extract (bt.size - 2) bt.size).toList = d := by subst hbt; simp only [hsz]; exact hdl
      rw [← hbt] at hsz KP KS KT hm ⊢
      rw [← hbs] at KS KT
      have hb : bt.size ≤ 200 := by omega
      have hb3 : 3 ≤ bt.size := by omega
      have hcd : decide ((200 : Int) < (bt.size : Int)) = false := by simp; omega
      have Q1 := Lib.hid q1
      have Q2 := Lib.hid q2
      have Q3 := Lib.hid q3
      have hxe : ((x.toNat : Int) == 115) = (x == 115) := by
        rw [Bool.eq_iff_iff]
        simp only [beq_iff_eq]
        constructor
        · intro h; exact UInt8.toNat_inj.1 (by have : x.toNat = 115 := by omega
                                               rw [this]; rfl)
        · intro h; rw [h]; rfl
      have hye : ((y.toNat : Int) == 115) = (y == 115) := by
        rw [Bool.eq_iff_iff]
        simp only [beq_iff_eq]
        constructor
        · intro h; exact UInt8.toNat_inj.1 (by have : y.toNat = 115 := by omega
                                               rw [this]; rfl)
        · intro h; rw [h]; rfl
      clear hA1 hA3 hx hy hdd hdl hsz h3 hp hl q1 q2 q3 hbt hbs
      cases n1 : (x == 115)
      · rw [n1] at hxe
        cases n2 : (d == [105, 101])
        · have n2' : ¬ d = [105, 101] := by simpa using n2
          cases n4 : (d == [115, 101])
          · have n4' : ¬ d = [115, 101] := by simpa using n4
            have n3 : (d == [115, 101] && y == 115) = false := by rw [n4]; rfl
            clear hye hAe3
            have KS2 := Lib.hid (KT.out (by rw [Q1.out]; exact n1) (by rw [Q2.out]; exact n2) (by rw [Q3.out]; exact n3))
            clear n3
            go_enter Try.func5, Try.ntmps5
            go_wp2_with (first
              | (go_at_call 10; refine (KP.out _).mono ?_; rintro _ _ ⟨rfl, rfl⟩)
              | (go_at_call 9; (with_reducible refine (KS.out _).mono ?_); rintro _ w3 ⟨rfl, hb3⟩; have HB3 := Lib.hid hb3; clear hb3)
              | (go_at_call 9; (with_reducible refine (KS2.out _).mono ?_); rintro _ w4 ⟨rfl, hb4⟩; have HB4 := Lib.hid (HB3.out.trans (hb4.mono HB3.out.size)); clear hb4)
              | (go_at_call 7; refine (KA.out _).mono ?_; rintro _ w2 ⟨rfl, hb2⟩; have HB2 := Lib.hid (HB4.out.trans (hb2.mono HB4.out.size)); clear hb2))
            go_ret
            exact ⟨rfl, HB2.out⟩
          · cases n5 : (y == 115)
            · rw [n5] at hye
              have n3 : (d == [115, 101] && y == 115) = false := by rw [n5]; simp
              have KS2 := Lib.hid (KT.out (by rw [Q1.out]; exact n1) (by rw [Q2.out]; exact n2) (by rw [Q3.out]; exact n3))
              clear n3
              go_enter Try.func5, Try.ntmps5
              go_wp2_with (first
                | (go_at_call 10; refine (KP.out _).mono ?_; rintro _ _ ⟨rfl, rfl⟩)
                | (go_at_call 9; (with_reducible refine (KS.out _).mono ?_); rintro _ w3 ⟨rfl, hb3⟩; have HB3 := Lib.hid hb3; clear hb3)
                | (go_at_call 9; (with_reducible refine (KS2.out _).mono ?_); rintro _ w4 ⟨rfl, hb4⟩; have HB4 := Lib.hid (HB3.out.trans (hb4.mono HB3.out.size)); clear hb4)
                | (go_at_call 7; refine (KA.out _).mono ?_; rintro _ w2 ⟨rfl, hb2⟩; have HB2 := Lib.hid (HB4.out.trans (hb2.mono HB4.out.size)); clear hb2))
              go_ret
              exact ⟨rfl, HB2.out⟩
            · rw [n5] at hye
              clear KT
              go_enter Try.func5, Try.ntmps5
              go_wp2_with (first
                | (go_at_call 10; refine (KP.out _).mono ?_; rintro _ _ ⟨rfl, rfl⟩)
                | (go_at_call 7; refine (KA.out _).mono ?_; rintro _ w2 ⟨rfl, hb2⟩; have HB2 := Lib.hid hb2; clear hb2))
              go_ret
              exact ⟨rfl, HB2.out⟩
        · clear KT hye hAe3
          go_enter Try.func5, Try.ntmps5
          go_wp2_with (first
            | (go_at_call 10; refine (KP.out _).mono ?_; rintro _ _ ⟨rfl, rfl⟩)
            | (go_at_call 7; refine (KA.out _).mono ?_; rintro _ w2 ⟨rfl, hb2⟩; have HB2 := Lib.hid hb2; clear hb2))
          go_ret
          exact ⟨rfl, HB2.out⟩
      · rw [n1] at hxe
        clear KT hye hAe3 hD
        go_enter Try.func5, Try.ntmps5
        go_wp2_with (first
          | (go_at_call 10; refine (KP.out _).mono ?_; rintro _ _ ⟨rfl, rfl⟩)
          | (go_at_call 7; refine (KA.out _).mono ?_; rintro _ w2 ⟨rfl, hb2⟩; have HB2 := Lib.hid hb2; clear hb2))
        go_ret
        exact ⟨rfl, HB2.out⟩
  · obtain ⟨bt, hbt⟩ : ∃ b, b = mkB t := ⟨_, rfl⟩
    rw [← hbt] at hsz hm ⊢
    have hb : (200 : Int) < (bt.size : Int) := by omega
    clear hsz hbt hl
    go_enter Try.func5, Try.ntmps5
    go_wp2
    go_ret
    exact ⟨rfl, Below.refl _ _⟩
end Go.Proofs.Ytoainljghfldlaa
