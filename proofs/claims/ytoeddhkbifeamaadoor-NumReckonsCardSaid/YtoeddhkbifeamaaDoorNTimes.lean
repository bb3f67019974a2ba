/- num.Times. -/
import Derived.Test.YtoeddhkbifeamaaDoorNDiv
namespace Go.Proofs.YtoeddhkbifeamaaDoor
open Go.RowKit
set_option linter.unusedVariables false

theorem mul_any (x y P : Nat) (hi lo : Int) (w : World) (hx : x < 18446744073709551616) (hy : y < 18446744073709551616) (hP : P = x * y) (h1 : hi = (P : Int) / 18446744073709551616) (h2 : lo = (P : Int) % 18446744073709551616) :
    Calls Tryd.prog 31 #[.int .u64 x, .int .u64 y] w fun e w' => e = .returned (.tuple #[.int .u64 hi, .int .u64 lo]) ∧ w = w' := by
  refine (Tryd.bits_Mul64 x y hx hy w).mono ?_
  rintro e w' ⟨rfl, rfl⟩
  subst hP h1 h2
  exact ⟨by simp, rfl⟩
theorem div_any (P : Nat) (hi lo : Int) (q r : Nat) (w : World) (h1 : hi = (P : Int) / 18446744073709551616) (h2 : lo = (P : Int) % 18446744073709551616) (hb : hi < 10000000) (hq : q = P / 10000000) (hr : r = P % 10000000) :
    Calls Tryd.prog 32 #[.int .u64 hi, .int .u64 lo, .int .u64 10000000] w fun e w' => e = .returned (.tuple #[.int .u64 (q : Int), .int .u64 (r : Int)]) ∧ ∃ n, w' = w.drewN n := by
  by_cases h0 : hi = 0
  · subst h0
    refine (div_low lo w (by omega) (by omega)).mono ?_
    rintro e w' ⟨rfl, hw⟩
    refine ⟨?_, hw⟩
    rw [show lo / 10000000 = (q : Int) by omega, show lo % 10000000 = (r : Int) by omega]
  · refine (div_high hi lo w (by omega) (by omega) (by omega) hb).mono ?_
    rintro e w' ⟨rfl, rfl⟩
    refine ⟨?_, 0, by simp [World.drewN_zero]⟩
    rw [show (hi * 18446744073709551616 + lo) / 10000000 = (q : Int) by omega, show (hi * 18446744073709551616 + lo) % 10000000 = (r : Int) by omega]

/-- A product: of magnitudes, in parts of parts. -/
def timesP (a b : Int) : Nat := a.natAbs * b.natAbs
def timesE (a b : Int) : Int := if heldB a = true ∧ heldB b = true then (if timesP a b % 10000000 = 0 then numE (timesP a b / 10000000) else 12) else 2
def timesV (a b : Int) : Int := if heldB a = true ∧ heldB b = true then (if timesP a b % 10000000 = 0 then numV (timesP a b / 10000000) (decide (a < 0) != decide (b < 0)) else 0) else 0
set_option maxRecDepth 100000 in
theorem times_any (a b : Int) (w : World) : Calls Tryd.prog 18 #[.int .i64 a, .int .i64 b] w fun e w' => e = .returned (.tuple #[.int .i64 (timesV a b), .int .i64 (timesE a b)]) ∧ ∃ n, w' = w.drewN n := by
  cases h1 : heldB a
  · have e1 : timesE a b = 2 := if_neg (by rw [h1]; simp)
    have e2 : timesV a b = 0 := if_neg (by rw [h1]; simp)
    rw [e1, e2]
    clear e1 e2
    go_enter Tryd.func18, Tryd.ntmps18
    go_wp2_with (go_at_call 25; refine (held_any _ _).mono ?_; rintro e w' ⟨rfl, rfl⟩)
    go_ret2
    exact ⟨rfl, 0, rfl⟩
  · cases h2 : heldB b
    · have e1 : timesE a b = 2 := if_neg (by rw [h2]; simp)
      have e2 : timesV a b = 0 := if_neg (by rw [h2]; simp)
      rw [e1, e2]
      clear e1 e2
      go_enter Tryd.func18, Tryd.ntmps18
      go_wp2_with (go_at_call 25; refine (held_any _ _).mono ?_; rintro e w' ⟨rfl, rfl⟩)
      go_ret2
      exact ⟨rfl, 0, rfl⟩
    · have hA := heldB_yes h1
      have hB := heldB_yes h2
      obtain ⟨P, hP⟩ : ∃ P, P = timesP a b := ⟨_, rfl⟩
      obtain ⟨hi, hH⟩ : ∃ x, x = (P : Int) / 18446744073709551616 := ⟨_, rfl⟩
      obtain ⟨lo, hL⟩ : ∃ x, x = (P : Int) % 18446744073709551616 := ⟨_, rfl⟩
      obtain ⟨q, hq⟩ : ∃ q, q = P / 10000000 := ⟨_, rfl⟩
      obtain ⟨r, hr⟩ : ∃ r, r = P % 10000000 := ⟨_, rfl⟩
      have hx : a.natAbs < 18446744073709551616 := by omega
      have hy : b.natAbs < 18446744073709551616 := by omega
      have CM := fun W => mul_any a.natAbs b.natAbs P hi lo W hx hy hP hH hL
      by_cases hb : hi < 10000000
      · have CD := fun W => div_any P hi lo q r W hH hL hb hq hr
        by_cases hz : r = 0
        · have hq2 : q < 18446744073709551616 := by omega
          have e1 : timesE a b = numE q := by unfold timesE; rw [if_pos ⟨h1, h2⟩, ← hP, ← hr, if_pos hz, ← hq]
          have e2 : timesV a b = numV q (decide (a < 0) != decide (b < 0)) := by unfold timesV; rw [if_pos ⟨h1, h2⟩, ← hP, ← hr, if_pos hz, ← hq]
          rw [e1, e2]
          have hb' : ¬ 10000000 ≤ hi := by omega
          have hz2 : ((r : Int) != 0) = false := by simp [hz]
          have KM := Lib.hid CM
          have KD := Lib.hid CD
          clear e1 e2 hP hH hL hq hr CM CD hA hB hx hy hb hz
          go_enter Tryd.func18, Tryd.ntmps18
          go_wp2_with (first
            | (go_at_call 25; refine (held_any _ _).mono ?_; rintro e w' ⟨rfl, rfl⟩)
            | (go_at_call 26; refine (magnitude_any _ _ (by assumption)).mono ?_; rintro e w' ⟨rfl, rfl⟩)
            | (go_at_call 31; refine (KM.out _).mono ?_; rintro e w' ⟨rfl, rfl⟩)
            | (go_at_call 32; refine (KD.out _).mono ?_; rintro e w' ⟨rfl, nd, rfl⟩)
            | (go_at_call 33; refine (number_any q _ _ hq2).mono ?_; rintro e w' ⟨rfl, rfl⟩))
          go_ret2
          exact ⟨rfl, _, rfl⟩
        · have e1 : timesE a b = 12 := by unfold timesE; rw [if_pos ⟨h1, h2⟩, ← hP, ← hr, if_neg hz]
          have e2 : timesV a b = 0 := by unfold timesV; rw [if_pos ⟨h1, h2⟩, ← hP, ← hr, if_neg hz]
          rw [e1, e2]
          have hb' : ¬ 10000000 ≤ hi := by omega
          have hz2 : ((r : Int) != 0) = true := by simp; omega
          have KM := Lib.hid CM
          have KD := Lib.hid CD
          clear e1 e2 hP hH hL hq hr CM CD hA hB hx hy hb hz
          go_enter Tryd.func18, Tryd.ntmps18
          go_wp2_with (first
            | (go_at_call 25; refine (held_any _ _).mono ?_; rintro e w' ⟨rfl, rfl⟩)
            | (go_at_call 26; refine (magnitude_any _ _ (by assumption)).mono ?_; rintro e w' ⟨rfl, rfl⟩)
            | (go_at_call 31; refine (KM.out _).mono ?_; rintro e w' ⟨rfl, rfl⟩)
            | (go_at_call 32; refine (KD.out _).mono ?_; rintro e w' ⟨rfl, nd, rfl⟩))
          go_ret2
          exact ⟨rfl, _, rfl⟩
      · have e0 : ¬ P / 10000000 ≤ 9000000000000000000 := by omega
        have e1 : timesE a b = 12 := by unfold timesE; rw [if_pos ⟨h1, h2⟩, ← hP]; split <;> simp [numE, e0]
        have e2 : timesV a b = 0 := by unfold timesV; rw [if_pos ⟨h1, h2⟩, ← hP]; split <;> simp [numV, e0]
        rw [e1, e2]
        have hb' : 10000000 ≤ hi := by omega
        have KM := Lib.hid CM
        clear e0 e1 e2 hP hH hL hq hr CM hA hB hx hy hb
        go_enter Tryd.func18, Tryd.ntmps18
        go_wp2_with (first
          | (go_at_call 25; refine (held_any _ _).mono ?_; rintro e w' ⟨rfl, rfl⟩)
          | (go_at_call 26; refine (magnitude_any _ _ (by assumption)).mono ?_; rintro e w' ⟨rfl, rfl⟩)
          | (go_at_call 31; refine (KM.out _).mono ?_; rintro e w' ⟨rfl, rfl⟩))
        go_ret2
        exact ⟨rfl, 0, rfl⟩
end Go.Proofs.YtoeddhkbifeamaaDoor
