/- the document's One: every posting. -/
import Derived.Test.YthpfaaindkkpcaaBOne
import Derived.Deep.QuietTactic
import Derived.BigQuiet
namespace Go.Proofs.Ythpfaaindkkpcaa
open Go.RowKit Go.Maps
set_option linter.unusedVariables false
set_option linter.unusedSimpArgs false

theorem headNo2 {row len : Int} {n : Nat} {F : Nat → Int} (h : ¬ (0 ≤ row ∧ row ≤ 9007199254740992 ∧ 1 ≤ len ∧ len ≤ 1048576 ∧ 1 ≤ n)) : mayB row len n F = false :=
  decide_eq_false fun k => h ⟨k.1, k.2.1, k.2.2.1, k.2.2.2.1, k.2.2.2.2.1⟩
set_option maxRecDepth 100000 in
set_option maxHeartbeats 8000000 in
theorem refOne_any (row len : Int) (A : Option Addr) (n c : Nat) (F : Nat → Int) (w : World) (hI : Ints w A n F) : Calls Try.prog 31 #[.agg #[.int .i64 row, .int .i64 len, .slice A n c]] w fun e w' => e = .returned (.bool (mayB row len n F)) ∧ Below w.heap.size w w' := by
  have hn := hI.1
  by_cases hh : 0 ≤ row ∧ row ≤ 9007199254740992 ∧ 1 ≤ len ∧ len ≤ 1048576 ∧ 1 ≤ n
  · obtain ⟨r0, r1, l0, l1, n0⟩ := hh
    have n1 : (1 : Int) ≤ (n : Int) := by omega
    go_enter Try.func31, Try.ntmps31
    go_wp2
    have hB : Below w.heap.size w (w.alloc (.cells #[.int .i64 row, .int .i64 len, .slice A n c] 44)) := (Below.refl _ _).alloc (Nat.le_refl _) _
    have c1 : (w.alloc (.cells #[.int .i64 row, .int .i64 len, .slice A n c] 44)).cell? ⟨w.heap.size, 1, none⟩ = some (.int .i64 len) := by go_simp
    have c2 : (w.alloc (.cells #[.int .i64 row, .int .i64 len, .slice A n c] 44)).cell? ⟨w.heap.size, 2, none⟩ = some (.slice A n c) := by go_simp
    have HI := Lib.hid (hI.below hB (Nat.le_refl _))
    have HB := Lib.hid hB
    clear hB hI
    generalize w.alloc (.cells #[.int .i64 row, .int .i64 len, .slice A n c] 44) = w1 at *
    have hbx := cell_in c1
    go_loopw [3] (fun i wr => ∃ k : Nat, k ≤ n ∧ i = .int .i64 k ∧ GoodTo len F k ∧ Below w1.heap.size w1 wr) (fun i _ => n - (intOf i).toNat)
    case atStart => exact ⟨0, by omega, rfl, good_zero _ _, Below.refl _ _⟩
    case round =>
      obtain ⟨k, hk, rfl, hg, hnx⟩ := hrel
      have HG := Lib.hid hg
      have HX := Lib.hid hnx
      have d1 := kcell hnx hbx c1
      have d2 := kcell hnx hbx c2
      clear hg hnx
      by_cases hlt : k < n
      · obtain ⟨b, o, hA, hbl, hc⟩ := HI.out.at_ (by omega)
        subst hA
        have hck := kcell HX.out hbl (hc k hlt)
        have HN : Hid (¬ (aheadF F k < F k ∧ F k < len) → mayB row len n F = false) := Lib.hid fun q => decide_eq_false fun z => q (z.2.2.2.2.2 k hlt)
        have HS : Hid (aheadF F k < F k → F k < len → GoodTo len F (k + 1)) := Lib.hid fun q1 q2 => good_succ HG.out q1 q2
        by_cases hk0 : k = 0
        · subst hk0
          have e0 : aheadF F 0 = -1 := by unfold aheadF; rw [if_pos rfl]
          rw [e0] at HN HS
          rw [Nat.add_zero] at hck
          clear hc e0
          generalize F 0 = f at *
          by_cases h1 : f < 0
          · have k1 : decide (f < 0) = true := decide_eq_true h1
            have HE := Lib.hid (HN.out (by omega))
            go_wp2_with fail
            go_quiet (fail)
            go_wp2_with fail
            go_ret
            exact ⟨ret_b HE.out.symm, HB.out.trans ((HX.out.trans (below_drewN _ _ _)).mono HB.out.size)⟩
          · have k1 : decide (f < 0) = false := decide_eq_false h1
            by_cases h2 : f < len
            · have k2 : decide (len ≤ f) = false := decide_eq_false (by omega)
              have HE := Lib.hid (HS.out (by omega) h2)
              clear h1
              go_wp2_with fail
              go_quiet (fail)
              go_wp2_with fail
              go_roundw
              case rel => exact ⟨0 + 1, by omega, by go_num, HE.out, HX.out.trans (below_drewN _ _ _)⟩
              case measure => simp [intOf]; omega
            · have k2 : decide (len ≤ f) = true := decide_eq_true (by omega)
              have HE := Lib.hid (HN.out (by omega))
              clear h1 h2
              go_wp2_with fail
              go_quiet (fail)
              go_wp2_with fail
              go_ret
              exact ⟨ret_b HE.out.symm, HB.out.trans ((HX.out.trans (below_drewN _ _ _)).mono HB.out.size)⟩
        · obtain ⟨q, rfl⟩ : ∃ q, k = q + 1 := ⟨k - 1, by omega⟩
          have hcp := kcell HX.out hbl (hc q (by omega))
          have e0 := aheadF_succ F q
          have hge := good_ge HG.out q (by omega)
          rw [e0] at HN HS
          clear hc e0
          have hp0 : 0 ≤ F q := by omega
          clear hge hk0
          generalize F (q + 1) = f at *
          generalize F q = g at *
          by_cases h1 : f < 0
          · have k1 : decide (f < 0) = true := decide_eq_true h1
            have HE := Lib.hid (HN.out (by omega))
            go_wp2_with fail
            go_quiet (fail)
            go_wp2_with fail
            go_ret
            exact ⟨ret_b HE.out.symm, HB.out.trans ((HX.out.trans (below_drewN _ _ _)).mono HB.out.size)⟩
          · have k1 : decide (f < 0) = false := decide_eq_false h1
            by_cases h2 : f < len
            · have k2 : decide (len ≤ f) = false := decide_eq_false (by omega)
              by_cases h3 : g < f
              · have k3 : decide (f ≤ g) = false := decide_eq_false (by omega)
                have HE := Lib.hid (HS.out h3 h2)
                clear h1
                go_wp2_with fail
                go_quiet (fail)
                go_wp2_with fail
                go_roundw
                case rel => exact ⟨q + 1 + 1, by omega, by go_num, HE.out, HX.out.trans (below_drewN _ _ _)⟩
                case measure => simp [intOf]; omega
              · have k3 : decide (f ≤ g) = true := decide_eq_true (by omega)
                have HE := Lib.hid (HN.out (by omega))
                clear h1 h3
                go_wp2_with fail
                go_quiet (fail)
                go_wp2_with fail
                go_ret
                exact ⟨ret_b HE.out.symm, HB.out.trans ((HX.out.trans (below_drewN _ _ _)).mono HB.out.size)⟩
            · have k2 : decide (len ≤ f) = true := decide_eq_true (by omega)
              have HE := Lib.hid (HN.out (by omega))
              clear h1 h2
              go_wp2_with fail
              go_quiet (fail)
              go_wp2_with fail
              go_ret
              exact ⟨ret_b HE.out.symm, HB.out.trans ((HX.out.trans (below_drewN _ _ _)).mono HB.out.size)⟩
      · have e : n = k := by omega
        have HE : Hid (mayB row len n F = true) := Lib.hid (decide_eq_true ⟨r0, r1, l0, l1, by omega, by rw [e]; exact HG.out⟩)
        clear e
        go_wp2
        go_ret
        exact ⟨ret_b HE.out.symm, HB.out.trans (HX.out.mono HB.out.size)⟩
  · have HN := Lib.hid (headNo2 (F := F) hh)
    have HB := Lib.hid ((Below.refl w.heap.size w).alloc (Nat.le_refl _) (.cells #[.int .i64 row, .int .i64 len, .slice A n c] 44))
    clear hI
    go_enter Try.func31, Try.ntmps31
    go_wp2
    all_goals first
      | (go_ret; exact ⟨ret_b HN.out.symm, HB.out⟩)
      | (exfalso; omega)
end Go.Proofs.Ythpfaaindkkpcaa
