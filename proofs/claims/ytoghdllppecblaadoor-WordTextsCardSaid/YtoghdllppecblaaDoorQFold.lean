/- word's Fold: what a sign becomes. -/
import Derived.Test.YtoghdllppecblaaDoorQLook
namespace Go.Proofs.YtoghdllppecblaaDoor
open Go.RowKit
set_option linter.unusedVariables false
set_option linter.unusedSimpArgs false

theorem isLow_eq (c : Int) : isLow c = (wi c 97 122 || wi c 48 57) := rfl
theorem nilB_eq (c : Int) : nilB c = (wi c 8192 8303 || (wi c 12288 12351 || (decide (c = 65533) || !validB c))) := rfl
theorem mkB_enc (c : Int) : mkB (encL c) = Utf8.encode c := mkB_toList _
theorem valid_B (c : Int) : Utf8.valid c = validB c := by rw [validRune_eq]; unfold validRune validB; by_cases h1 : 0 ≤ c ∧ c < 55296 <;> by_cases h2 : 57343 < c ∧ c ≤ 1114111 <;> simp [h1, h2]
set_option maxRecDepth 100000 in
set_option maxHeartbeats 4000000 in
theorem fold_any (c : Int) (h32 : -2147483648 ≤ c ∧ c ≤ 2147483647) (w : World) (hT : TabT w) : Calls Tryd.prog 8 #[.int .i32 c] w fun e w' => e = .returned (.string (mkB (foldL c))) ∧ Below w.heap.size w w' := by
  have kA := fun W => within_any c 97 122 W
  have kB := fun W => within_any c 48 57 W
  have kC := fun W => within_any c 65 90 W
  have kD := fun W => within_any c 224 254 W
  have kF := fun W => within_any c 8192 8303 W
  have kG := fun W => within_any c 12288 12351 W
  have kV := fun W => valid_any c W
  have HF : foldL c = if (wi c 97 122 || wi c 48 57) = true then encL c else if wi c 65 90 = true then encL (c - 65 + 97) else if wi c 224 254 = true then lookL (c - 32) else if c < 384 then lookL c else if (wi c 8192 8303 || (wi c 12288 12351 || (decide (c = 65533) || !validB c))) = true then [] else encL c := rfl
  cases hA : wi c 97 122
  · rw [hA] at kA HF
    cases hB : wi c 48 57
    · rw [hB] at kB HF
      cases hC : wi c 65 90
      · rw [hC] at kC HF
        cases hD : wi c 224 254
        · rw [hD] at kD HF
          by_cases hE : c < 384
          · rw [if_pos hE] at HF
            have HE := Lib.hid (show foldL c = lookL c from HF)
            have HK := Lib.hid (looked_any c w hT)
            have KA := Lib.hid kA
            have KB := Lib.hid kB
            have KC := Lib.hid kC
            have KD := Lib.hid kD
            clear hT
            clear kA kB kC kD kF kG kV HF
            go_enter Tryd.func8, Tryd.ntmps8
            go_wp2_with fail
            (with_reducible refine (KA.out _).mono ?_); rintro _ _ ⟨rfl, rfl⟩
            go_wp2_with fail
            (with_reducible refine (KB.out _).mono ?_); rintro _ _ ⟨rfl, rfl⟩
            go_wp2_with fail
            (with_reducible refine (KC.out _).mono ?_); rintro _ _ ⟨rfl, rfl⟩
            go_wp2_with fail
            (with_reducible refine (KD.out _).mono ?_); rintro _ _ ⟨rfl, rfl⟩
            go_wp2_with fail
            (with_reducible refine HK.out.mono ?_); rintro _ w5 ⟨rfl, l5⟩
            have L5 := Lib.hid l5
            clear l5
            go_wp2
            go_ret
            exact ⟨by rw [HE.out]; rfl, L5.out⟩
          · rw [if_neg hE] at HF
            cases hF : wi c 8192 8303
            · rw [hF] at kF HF
              cases hG : wi c 12288 12351
              · rw [hG] at kG HF
                by_cases hH : c = 65533
                · subst hH
                  have KA := Lib.hid kA
                  have KB := Lib.hid kB
                  have KC := Lib.hid kC
                  have KD := Lib.hid kD
                  have KF := Lib.hid kF
                  have KG := Lib.hid kG
                  have HE := Lib.hid (show foldL 65533 = [] from fold_err)
                  clear kA kB kC kD kF kG kV HF
                  go_enter Tryd.func8, Tryd.ntmps8
                  go_wp2_with fail
                  (with_reducible refine (KA.out _).mono ?_); rintro _ _ ⟨rfl, rfl⟩
                  go_wp2_with fail
                  (with_reducible refine (KB.out _).mono ?_); rintro _ _ ⟨rfl, rfl⟩
                  go_wp2_with fail
                  (with_reducible refine (KC.out _).mono ?_); rintro _ _ ⟨rfl, rfl⟩
                  go_wp2_with fail
                  (with_reducible refine (KD.out _).mono ?_); rintro _ _ ⟨rfl, rfl⟩
                  go_wp2_with fail
                  (with_reducible refine (KF.out _).mono ?_); rintro _ _ ⟨rfl, rfl⟩
                  go_wp2_with fail
                  (with_reducible refine (KG.out _).mono ?_); rintro _ _ ⟨rfl, rfl⟩
                  go_wp2
                  go_ret
                  exact ⟨by rw [HE.out]; rfl, Below.refl _ _⟩
                · cases hV : validB c
                  · rw [hV] at kV HF
                    have KA := Lib.hid kA
                    have KB := Lib.hid kB
                    have KC := Lib.hid kC
                    have KD := Lib.hid kD
                    have KF := Lib.hid kF
                    have KG := Lib.hid kG
                    have KV := Lib.hid kV
                    have HE := Lib.hid (show foldL c = [] by rw [HF]; simp)
                    clear kA kB kC kD kF kG kV HF
                    go_enter Tryd.func8, Tryd.ntmps8
                    go_wp2_with fail
                    (with_reducible refine (KA.out _).mono ?_); rintro _ _ ⟨rfl, rfl⟩
                    go_wp2_with fail
                    (with_reducible refine (KB.out _).mono ?_); rintro _ _ ⟨rfl, rfl⟩
                    go_wp2_with fail
                    (with_reducible refine (KC.out _).mono ?_); rintro _ _ ⟨rfl, rfl⟩
                    go_wp2_with fail
                    (with_reducible refine (KD.out _).mono ?_); rintro _ _ ⟨rfl, rfl⟩
                    go_wp2_with fail
                    (with_reducible refine (KF.out _).mono ?_); rintro _ _ ⟨rfl, rfl⟩
                    go_wp2_with fail
                    (with_reducible refine (KG.out _).mono ?_); rintro _ _ ⟨rfl, rfl⟩
                    go_wp2_with fail
                    (with_reducible refine (KV.out _).mono ?_); rintro _ _ ⟨rfl, rfl⟩
                    go_wp2
                    go_ret
                    exact ⟨by rw [HE.out]; rfl, Below.refl _ _⟩
                  · rw [hV] at kV HF
                    have KA := Lib.hid kA
                    have KB := Lib.hid kB
                    have KC := Lib.hid kC
                    have KD := Lib.hid kD
                    have KF := Lib.hid kF
                    have KG := Lib.hid kG
                    have KV := Lib.hid kV
                    have HE := Lib.hid (show mkB (foldL c) = Utf8.encode c by rw [HF]; simp [hH]; exact mkB_enc c)
                    clear kA kB kC kD kF kG kV HF
                    go_enter Tryd.func8, Tryd.ntmps8
                    go_wp2_with fail
                    (with_reducible refine (KA.out _).mono ?_); rintro _ _ ⟨rfl, rfl⟩
                    go_wp2_with fail
                    (with_reducible refine (KB.out _).mono ?_); rintro _ _ ⟨rfl, rfl⟩
                    go_wp2_with fail
                    (with_reducible refine (KC.out _).mono ?_); rintro _ _ ⟨rfl, rfl⟩
                    go_wp2_with fail
                    (with_reducible refine (KD.out _).mono ?_); rintro _ _ ⟨rfl, rfl⟩
                    go_wp2_with fail
                    (with_reducible refine (KF.out _).mono ?_); rintro _ _ ⟨rfl, rfl⟩
                    go_wp2_with fail
                    (with_reducible refine (KG.out _).mono ?_); rintro _ _ ⟨rfl, rfl⟩
                    go_wp2_with fail
                    (with_reducible refine (KV.out _).mono ?_); rintro _ _ ⟨rfl, rfl⟩
                    go_wp2
                    go_ret
                    exact ⟨by rw [HE.out]; rfl, Below.refl _ _⟩
              · rw [hG] at kG HF
                have KA := Lib.hid kA
                have KB := Lib.hid kB
                have KC := Lib.hid kC
                have KD := Lib.hid kD
                have KF := Lib.hid kF
                have KG := Lib.hid kG
                have HE := Lib.hid (show foldL c = [] by rw [HF]; simp)
                clear kA kB kC kD kF kG kV HF
                go_enter Tryd.func8, Tryd.ntmps8
                go_wp2_with fail
                (with_reducible refine (KA.out _).mono ?_); rintro _ _ ⟨rfl, rfl⟩
                go_wp2_with fail
                (with_reducible refine (KB.out _).mono ?_); rintro _ _ ⟨rfl, rfl⟩
                go_wp2_with fail
                (with_reducible refine (KC.out _).mono ?_); rintro _ _ ⟨rfl, rfl⟩
                go_wp2_with fail
                (with_reducible refine (KD.out _).mono ?_); rintro _ _ ⟨rfl, rfl⟩
                go_wp2_with fail
                (with_reducible refine (KF.out _).mono ?_); rintro _ _ ⟨rfl, rfl⟩
                go_wp2_with fail
                (with_reducible refine (KG.out _).mono ?_); rintro _ _ ⟨rfl, rfl⟩
                go_wp2
                go_ret
                exact ⟨by rw [HE.out]; rfl, Below.refl _ _⟩
            · rw [hF] at kF HF
              have KA := Lib.hid kA
              have KB := Lib.hid kB
              have KC := Lib.hid kC
              have KD := Lib.hid kD
              have KF := Lib.hid kF
              have HE := Lib.hid (show foldL c = [] by rw [HF]; simp)
              clear kA kB kC kD kF kG kV HF
              go_enter Tryd.func8, Tryd.ntmps8
              go_wp2_with fail
              (with_reducible refine (KA.out _).mono ?_); rintro _ _ ⟨rfl, rfl⟩
              go_wp2_with fail
              (with_reducible refine (KB.out _).mono ?_); rintro _ _ ⟨rfl, rfl⟩
              go_wp2_with fail
              (with_reducible refine (KC.out _).mono ?_); rintro _ _ ⟨rfl, rfl⟩
              go_wp2_with fail
              (with_reducible refine (KD.out _).mono ?_); rintro _ _ ⟨rfl, rfl⟩
              go_wp2_with fail
              (with_reducible refine (KF.out _).mono ?_); rintro _ _ ⟨rfl, rfl⟩
              go_wp2
              go_ret
              exact ⟨by rw [HE.out]; rfl, Below.refl _ _⟩
        · rw [hD] at kD HF
          have hb : 224 ≤ c ∧ c ≤ 254 := by unfold wi at hD; simpa using hD
          have e1 : IntKind.i32.wrap (c - 32) = c - 32 := IntWalk.i32_in _ (by omega)
          have HK := Lib.hid (looked_any (c - 32) w hT)
          have KA := Lib.hid kA
          have KB := Lib.hid kB
          have KC := Lib.hid kC
          have KD := Lib.hid kD
          have HE := Lib.hid (show foldL c = lookL (c - 32) by rw [HF]; simp)
          clear hT
          clear kA kB kC kD kF kG kV HF
          go_enter Tryd.func8, Tryd.ntmps8
          go_wp2_with fail
          (with_reducible refine (KA.out _).mono ?_); rintro _ _ ⟨rfl, rfl⟩
          go_wp2_with fail
          (with_reducible refine (KB.out _).mono ?_); rintro _ _ ⟨rfl, rfl⟩
          go_wp2_with fail
          (with_reducible refine (KC.out _).mono ?_); rintro _ _ ⟨rfl, rfl⟩
          go_wp2_with fail
          (with_reducible refine (KD.out _).mono ?_); rintro _ _ ⟨rfl, rfl⟩
          go_wp2_with fail
          (with_reducible refine HK.out.mono ?_); rintro _ w5 ⟨rfl, l5⟩
          have L5 := Lib.hid l5
          clear l5
          go_wp2
          go_ret
          exact ⟨by rw [HE.out]; rfl, L5.out⟩
      · rw [hC] at kC HF
        have hb : 65 ≤ c ∧ c ≤ 90 := by unfold wi at hC; simpa using hC
        have e1 : IntKind.i32.wrap (c - 65) = c - 65 := IntWalk.i32_in _ (by omega)
        have e2 : IntKind.i32.wrap (c - 65 + 97) = c - 65 + 97 := IntWalk.i32_in _ (by omega)
        have KA := Lib.hid kA
        have KB := Lib.hid kB
        have KC := Lib.hid kC
        have HE := Lib.hid (show mkB (foldL c) = Utf8.encode (c - 65 + 97) by rw [HF]; simp; exact mkB_enc _)
        clear kA kB kC kD kF kG kV HF
        go_enter Tryd.func8, Tryd.ntmps8
        go_wp2_with fail
        (with_reducible refine (KA.out _).mono ?_); rintro _ _ ⟨rfl, rfl⟩
        go_wp2_with fail
        (with_reducible refine (KB.out _).mono ?_); rintro _ _ ⟨rfl, rfl⟩
        go_wp2_with fail
        (with_reducible refine (KC.out _).mono ?_); rintro _ _ ⟨rfl, rfl⟩
        go_wp2
        go_ret
        exact ⟨by rw [HE.out]; rfl, Below.refl _ _⟩
    · rw [hB] at kB HF
      have KA := Lib.hid kA
      have KB := Lib.hid kB
      have HE := Lib.hid (show mkB (foldL c) = Utf8.encode c by rw [HF]; simp; exact mkB_enc c)
      clear kA kB kC kD kF kG kV HF
      go_enter Tryd.func8, Tryd.ntmps8
      go_wp2_with fail
      (with_reducible refine (KA.out _).mono ?_); rintro _ _ ⟨rfl, rfl⟩
      go_wp2_with fail
      (with_reducible refine (KB.out _).mono ?_); rintro _ _ ⟨rfl, rfl⟩
      go_wp2
      go_ret
      exact ⟨by rw [HE.out]; rfl, Below.refl _ _⟩
  · rw [hA] at kA HF
    have KA := Lib.hid kA
    have HE := Lib.hid (show mkB (foldL c) = Utf8.encode c by rw [HF]; simp; exact mkB_enc c)
    clear kA kB kC kD kF kG kV HF
    go_enter Tryd.func8, Tryd.ntmps8
    go_wp2_with fail
    (with_reducible refine (KA.out _).mono ?_); rintro _ _ ⟨rfl, rfl⟩
    go_wp2
    go_ret
    exact ⟨by rw [HE.out]; rfl, Below.refl _ _⟩
end Go.Proofs.YtoghdllppecblaaDoor
