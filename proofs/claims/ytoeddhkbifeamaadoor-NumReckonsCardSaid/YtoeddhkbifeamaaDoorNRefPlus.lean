/- The document's Plus. -/
import Derived.Test.YtoeddhkbifeamaaDoorNRefPrint
import Derived.Test.YtoeddhkbifeamaaDoorNValue
namespace Go.Proofs.YtoeddhkbifeamaaDoor
open Go.RowKit
set_option linter.unusedVariables false

theorem half_of (a : Int) : ∃ x r : Int, a.tdiv 2 = x ∧ a.tmod 2 = r ∧ a = 2 * x + r ∧ -1 ≤ r ∧ r ≤ 1 := by
  refine ⟨_, _, rfl, rfl, ?_, ?_, ?_⟩
  · have := Int.mul_tdiv_add_tmod a 2
    omega
  · rcases Int.le_total 0 a with h | h
    · rw [Int.tmod_eq_emod_of_nonneg h]; omega
    · have := Int.neg_tmod a 2
      rw [Int.tmod_eq_emod_of_nonneg (by omega : 0 ≤ -a)] at this
      omega
  · rcases Int.le_total 0 a with h | h
    · rw [Int.tmod_eq_emod_of_nonneg h]; omega
    · have := Int.neg_tmod a 2
      rw [Int.tmod_eq_emod_of_nonneg (by omega : 0 ≤ -a)] at this
      omega
theorem held_at (n : Int) (b : Bool) (h : heldB n = b) (w : World) : Calls Tryd.prog 29 #[.int .i64 n] w fun e w' => e = .returned (.bool b) ∧ w = w' := by
  subst h
  exact refHeld_any n w
set_option maxHeartbeats 2000000 in
set_option maxRecDepth 100000 in
theorem refPlus_any (a b : Int) (w : World) :
    Calls Tryd.prog 17 #[.int .i64 a, .int .i64 b] w fun e w' => e = .returned (.tuple #[.int .i64 (plusV a b), .int .i64 (plusE a b)]) ∧ w = w' := by
  cases h1 : heldB a
  · have e1 : plusE a b = 2 := if_neg (by rw [h1]; simp)
    have e2 : plusV a b = 0 := by unfold plusV; rw [e1]; rfl
    rw [e1, e2]
    have C1 := Lib.hid fun W => held_at a false h1 W
    clear e1 e2 h1
    go_enter Tryd.func17, Tryd.ntmps17
    go_wp2_with (go_at_call 29; refine (C1.out _).mono ?_; rintro e w' ⟨rfl, rfl⟩)
    go_ret2
    exact ⟨rfl, rfl⟩
  · cases h2 : heldB b
    · have e1 : plusE a b = 2 := if_neg (by rw [h2]; simp)
      have e2 : plusV a b = 0 := by unfold plusV; rw [e1]; rfl
      rw [e1, e2]
      have C1 := Lib.hid fun W => held_at a true h1 W
      have C2 := Lib.hid fun W => held_at b false h2 W
      clear e1 e2 h1 h2
      go_enter Tryd.func17, Tryd.ntmps17
      go_wp2_with fail
      refine (C1.out _).mono ?_
      rintro _ _ ⟨rfl, rfl⟩
      go_wp2_with fail
      refine (C2.out _).mono ?_
      rintro _ _ ⟨rfl, rfl⟩
      go_wp2
      go_ret2
      exact ⟨rfl, rfl⟩
    · obtain ⟨a1, a2⟩ := heldB_yes h1
      obtain ⟨b1, b2⟩ := heldB_yes h2
      have C1 := Lib.hid fun W => held_at a true h1 W
      have C2 := Lib.hid fun W => held_at b true h2 W
      obtain ⟨x1, r1, f1, f2, f3, f4, f5⟩ := half_of a
      obtain ⟨x2, r2, g1, g2, g3, g4, g5⟩ := half_of b
      obtain ⟨y, r3, k1, k2, k3, k4, k5⟩ := half_of (r1 + r2)
      obtain ⟨s, hs⟩ : ∃ s, s = a + b := ⟨_, rfl⟩
      obtain ⟨h, hh⟩ : ∃ h, h = x1 + x2 + y := ⟨_, rfl⟩
      have hsum : s = 2 * h + r3 := by omega
      have w1 : IntKind.i64.wrap (a.tdiv 2) = x1 := by rw [f1]; exact IntWalk.i64_in _ (by omega)
      have w2 : IntKind.i64.wrap (b.tdiv 2) = x2 := by rw [g1]; exact IntWalk.i64_in _ (by omega)
      have w3 : IntKind.i64.wrap ((r1 + r2).tdiv 2) = y := by rw [k1]; exact IntWalk.i64_in _ (by omega)
      have w6 : wrap64 ((r1 + r2).tdiv 2) = y := by rw [k1]; exact IntWalk.wrap64_in _ ⟨by omega, by omega⟩
      have x1b : -4500000000000000000 ≤ x1 ∧ x1 ≤ 4500000000000000000 := by omega
      have x2b : -4500000000000000000 ≤ x2 ∧ x2 ≤ 4500000000000000000 := by omega
      have yb : -1 ≤ y ∧ y ≤ 1 := by omega
      have HE := Lib.hid (show plusE a b = (if heldB s = true then 0 else 12) by unfold plusE; rw [if_pos ⟨h1, h2⟩, hs])
      have HV := Lib.hid (show plusV a b = (if heldB s = true then s else 0) by
        unfold plusV
        rw [HE.out]
        by_cases hx : heldB s = true
        · rw [if_pos hx, if_pos hx, if_pos rfl, hs]
        · rw [if_neg hx, if_neg hx, if_neg (by decide)])
      by_cases c1 : 4500000000000000000 < h
      · have hx := Lib.hid (heldB_not (n := s) (.inr (by omega)))
        have HE2 := Lib.hid (HE.out.trans (by rw [hx.out]; rfl : _ = (12 : Int)))
        have HV2 := Lib.hid (HV.out.trans (by rw [hx.out]; rfl : _ = (0 : Int)))
        have hh2 : x1 + x2 + y = h := hh.symm
        clear f3 g3 k3 hsum h1 h2 hs hh f1 g1 k1 k2
        go_enter Tryd.func17, Tryd.ntmps17
        go_wp2_with fail
        refine (C1.out _).mono ?_
        rintro _ _ ⟨rfl, rfl⟩
        go_wp2_with fail
        refine (C2.out _).mono ?_
        rintro _ _ ⟨rfl, rfl⟩
        go_wp2
        go_ret2
        exact ⟨ret_ii HV2.out.symm HE2.out.symm, rfl⟩
      · by_cases c2 : h < -4500000000000000000
        · have hx := Lib.hid (heldB_not (n := s) (.inl (by omega)))
          have HE2 := Lib.hid (HE.out.trans (by rw [hx.out]; rfl : _ = (12 : Int)))
          have HV2 := Lib.hid (HV.out.trans (by rw [hx.out]; rfl : _ = (0 : Int)))
          have hh2 : x1 + x2 + y = h := hh.symm
          clear f3 g3 k3 hsum h1 h2 hs hh f1 g1 k1 k2
          go_enter Tryd.func17, Tryd.ntmps17
          go_wp2_with fail
          refine (C1.out _).mono ?_
          rintro _ _ ⟨rfl, rfl⟩
          go_wp2_with fail
          refine (C2.out _).mono ?_
          rintro _ _ ⟨rfl, rfl⟩
          go_wp2
          go_ret2
          exact ⟨ret_ii HV2.out.symm HE2.out.symm, rfl⟩
        · have hh2 : x1 + x2 + y = h := hh.symm
          have hss : a + b = s := hs.symm
          have sb : -9000000000000000001 ≤ s ∧ s ≤ 9000000000000000001 := by omega
          have hab : -9000000000000000001 ≤ a + b ∧ a + b ≤ 9000000000000000001 := by omega
          cases hx : heldB s
          · have HE2 := Lib.hid (HE.out.trans (by rw [hx]; rfl : _ = (12 : Int)))
            have HV2 := Lib.hid (HV.out.trans (by rw [hx]; rfl : _ = (0 : Int)))
            have C3 := Lib.hid fun W => held_at s false hx W
            clear f3 g3 k3 hsum h1 h2 hs hh f1 g1 k1 k2 hx
            go_enter Tryd.func17, Tryd.ntmps17
            go_wp2_with fail
            refine (C1.out _).mono ?_
            rintro _ _ ⟨rfl, rfl⟩
            go_wp2_with fail
            refine (C2.out _).mono ?_
            rintro _ _ ⟨rfl, rfl⟩
            go_wp2_with fail
            refine (C3.out _).mono ?_
            rintro _ _ ⟨rfl, rfl⟩
            go_wp2
            go_ret2
            exact ⟨ret_ii HV2.out.symm HE2.out.symm, rfl⟩
          · have HE2 := Lib.hid (HE.out.trans (by rw [hx]; rfl : _ = (0 : Int)))
            have HV2 := Lib.hid (HV.out.trans (by rw [hx]; rfl : _ = s))
            have C3 := Lib.hid fun W => held_at s true hx W
            clear f3 g3 k3 hsum h1 h2 hs hh f1 g1 k1 k2 hx
            go_enter Tryd.func17, Tryd.ntmps17
            go_wp2_with fail
            refine (C1.out _).mono ?_
            rintro _ _ ⟨rfl, rfl⟩
            go_wp2_with fail
            refine (C2.out _).mono ?_
            rintro _ _ ⟨rfl, rfl⟩
            go_wp2_with fail
            refine (C3.out _).mono ?_
            rintro _ _ ⟨rfl, rfl⟩
            go_wp2
            go_ret2
            exact ⟨ret_ii HV2.out.symm HE2.out.symm, rfl⟩
end Go.Proofs.YtoeddhkbifeamaaDoor
