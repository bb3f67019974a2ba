/- NumReckons: the walk. -/
import Derived.Test.YtoeddhkbifeamaaDoorNTimesW
namespace Go.Proofs.YtoeddhkbifeamaaDoor
open Go.RowKit
set_option linter.unusedVariables false

set_option maxHeartbeats 2000000 in
set_option maxRecDepth 100000 in
theorem refTimes_any (a b : Int) (w : World) :
    Calls Tryd.prog 19 #[.int .i64 a, .int .i64 b] w fun e w' => e = .returned (.tuple #[.int .i64 (timesV a b), .int .i64 (timesE a b)]) ∧ Below w.heap.size w w' := by
  cases h1 : heldB a
  · have e1 : timesE a b = 2 := if_neg (by rw [h1]; simp)
    have e2 : timesV a b = 0 := if_neg (by rw [h1]; simp)
    rw [e1, e2]
    have C1 := Lib.hid fun W => held_at a false h1 W
    clear e1 e2 h1
    go_enter Tryd.func19, Tryd.ntmps19
    go_wp2_with (go_at_call 29; refine (C1.out _).mono ?_; rintro e w' ⟨rfl, rfl⟩)
    go_ret2
    exact ⟨rfl, Below.refl _ _⟩
  · cases h2 : heldB b
    · have e1 : timesE a b = 2 := if_neg (by rw [h2]; simp)
      have e2 : timesV a b = 0 := if_neg (by rw [h2]; simp)
      rw [e1, e2]
      have C1 := Lib.hid fun W => held_at a true h1 W
      have C2 := Lib.hid fun W => held_at b false h2 W
      clear e1 e2 h1 h2
      go_enter Tryd.func19, Tryd.ntmps19
      go_wp2_with fail
      refine (C1.out _).mono ?_
      rintro _ _ ⟨rfl, rfl⟩
      go_wp2_with fail
      refine (C2.out _).mono ?_
      rintro _ _ ⟨rfl, rfl⟩
      go_wp2
      go_ret2
      exact ⟨rfl, Below.refl _ _⟩
    · exact refTimes_good a b w h1 h2
set_option maxHeartbeats 2000000 in
set_option maxRecDepth 100000 in
theorem numReckons_walk (a b : Int) (ha : In64 a) (hb : In64 b) (w : World) (ht : TabW w) :
    Calls Tryd.prog 5 #[.int .i64 a, .int .i64 b] w fun r w' => r = .returned (.bool true) ∧ Below w.heap.size w w' := by
  have H := Lib.hid ht
  have H1 := Lib.hid fun W => plus_any a b W ha hb
  have H2 := Lib.hid fun W => refPlus_any a b W
  have H3 := Lib.hid fun W => times_any a b W
  have H4 := Lib.hid fun W => refTimes_any a b W
  obtain ⟨x, hx⟩ : ∃ x, x = plusV a b := ⟨_, rfl⟩
  obtain ⟨e, he⟩ : ∃ e, e = plusE a b := ⟨_, rfl⟩
  obtain ⟨z, hz⟩ : ∃ z, z = timesV a b := ⟨_, rfl⟩
  obtain ⟨g, hg⟩ : ∃ g, g = timesE a b := ⟨_, rfl⟩
  rw [← hx, ← he] at H1 H2
  rw [← hz, ← hg] at H3 H4
  have q1 : (x == x) = true := by simp
  have q2 : (e == e) = true := by simp
  have q3 : (z == z) = true := by simp
  have q4 : (g == g) = true := by simp
  clear hx he hz hg ht
  go_enter Tryd.func5, Tryd.ntmps5
  go_wp2_with fail
  refine (H1.out _).mono ?_
  rintro _ _ ⟨rfl, rfl⟩
  go_wp2_with fail
  refine (H2.out _).mono ?_
  rintro _ _ ⟨rfl, rfl⟩
  go_wp2_with fail
  refine (H3.out _).mono ?_
  rintro _ _ ⟨rfl, n1, rfl⟩
  go_wp2_with fail
  refine (H4.out _).mono ?_
  rintro _ w4 ⟨rfl, l4⟩
  have L4 := Lib.hid ((below_draws (Below.refl w.heap.size w) n1).trans l4)
  clear l4
  go_wp2_with fail
  refine (awake_any _ (H.out.below L4.out)).mono ?_
  rintro _ w5 ⟨rfl, l5⟩
  have L5 := Lib.hid (L4.out.trans (l5.mono L4.out.size))
  clear l5
  go_wp2
  go_ret
  exact ⟨rfl, L5.out⟩
end Go.Proofs.YtoeddhkbifeamaaDoor
