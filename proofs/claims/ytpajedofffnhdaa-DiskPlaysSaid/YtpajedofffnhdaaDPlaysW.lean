/- DiskPlays, whatever the arguments. -/
import Derived.Test.YtpajedofffnhdaaDPlays
namespace Go.Proofs.Ytpajedofffnhdaa
open Go.RowKit
set_option linter.unusedVariables false

set_option maxRecDepth 100000 in
set_option maxHeartbeats 1000000 in
theorem diskPlays_wrong (N size : Int) (A : Option Addr) (n c : Nat) (X : Nat → ActD) (w : World) (hX : Acts w A n X) (hB : true = lightB n X) (h8 : ¬ (8 < N ∧ N ≤ 1048576)) (hw : N < 1 ∨ 1048576 < N ∨ size < 64 ∨ 4096 < size) :
    Calls Try.prog 3 #[.int .i64 N, .int .i64 size, .slice A n c] w fun e w' => e = .returned (.bool true) ∧ Below w.heap.size w w' := by
  have KX := Lib.hid hX
  have HB := Lib.hid hB
  have HW := Lib.hid hw
  clear hX hB hw
  by_cases g8 : 8 < N
  · have g9 : decide (N ≤ 1048576) = false := by rw [decide_eq_false_iff_not]; omega
    have g8' : decide (8 < N) = true := by rw [decide_eq_true_iff]; exact g8
    clear h8
    go_enter Try.func3, Try.ntmps3
    go_wp2_with fail
    refine (light_any A n c X w KX.out).mono ?_
    rintro e w' ⟨rfl, rfl⟩
    rw [← HB.out]
    go_wp2_with fail
    refine (new_nil N size w HW.out).mono ?_
    rintro e w' ⟨rfl, rfl⟩
    go_wp2_with fail
    refine (refRight_no N size w HW.out).mono ?_
    rintro e w' ⟨rfl, rfl⟩
    go_wp2_with fail
    refine (sectors_nil w).mono ?_
    rintro e w' ⟨rfl, rfl⟩
    go_wp2_with fail
    refine (size_nil w).mono ?_
    rintro e w' ⟨rfl, rfl⟩
    go_wp2_with fail
    refine (awake_any w).mono ?_
    rintro e w' ⟨rfl, l⟩
    go_wp2
    go_ret
    exact ⟨rfl, l⟩
  · have g8' : decide (8 < N) = false := by rw [decide_eq_false_iff_not]; exact g8
    clear h8
    go_enter Try.func3, Try.ntmps3
    go_wp2_with fail
    refine (light_any A n c X w KX.out).mono ?_
    rintro e w' ⟨rfl, rfl⟩
    rw [← HB.out]
    go_wp2_with fail
    refine (new_nil N size w HW.out).mono ?_
    rintro e w' ⟨rfl, rfl⟩
    go_wp2_with fail
    refine (refRight_no N size w HW.out).mono ?_
    rintro e w' ⟨rfl, rfl⟩
    go_wp2_with fail
    refine (sectors_nil w).mono ?_
    rintro e w' ⟨rfl, rfl⟩
    go_wp2_with fail
    refine (size_nil w).mono ?_
    rintro e w' ⟨rfl, rfl⟩
    go_wp2_with fail
    refine (awake_any w).mono ?_
    rintro e w' ⟨rfl, l⟩
    go_wp2
    go_ret
    exact ⟨rfl, l⟩

set_option maxRecDepth 100000 in
set_option maxHeartbeats 1000000 in
theorem diskPlays_walk (N size : Int) (A : Option Addr) (n c : Nat) (X : Nat → ActD) (w : World) (hX : Acts w A n X) :
    Calls Try.prog 3 #[.int .i64 N, .int .i64 size, .slice A n c] w fun e w' => e = .returned (.bool true) ∧ Below w.heap.size w w' := by
  have KX := Lib.hid hX
  obtain ⟨b1, hb1⟩ : ∃ b, b = lightB n X := ⟨_, rfl⟩
  rcases b1 with _ | _
  · clear hX
    have HB := Lib.hid hb1
    clear hb1
    go_enter Try.func3, Try.ntmps3
    go_wp2_with fail
    refine (light_any A n c X w KX.out).mono ?_
    rintro e w' ⟨rfl, rfl⟩
    rw [← HB.out]
    go_wp2
    go_ret
    exact ⟨rfl, Below.refl _ _⟩
  · by_cases h8 : 8 < N ∧ N ≤ 1048576
    · obtain ⟨h1, h2⟩ := h8
      have HB := Lib.hid hb1
      clear hb1 hX
      go_enter Try.func3, Try.ntmps3
      go_wp2_with fail
      refine (light_any A n c X w KX.out).mono ?_
      rintro e w' ⟨rfl, rfl⟩
      rw [← HB.out]
      go_wp2
      go_ret
      exact ⟨rfl, Below.refl _ _⟩
    · by_cases hw : N < 1 ∨ 1048576 < N ∨ size < 64 ∨ 4096 < size
      · exact diskPlays_wrong N size A n c X w hX hb1 h8 hw
      · obtain ⟨N', rfl⟩ := Int.eq_ofNat_of_zero_le (show 0 ≤ N by omega)
        obtain ⟨s', rfl⟩ := Int.eq_ofNat_of_zero_le (show 0 ≤ size by omega)
        have g1 : n ≤ 40 := by have := hb1; unfold lightB at this; exact (of_decide_eq_true this.symm).1
        exact @diskPlays_main ⟨fun _ => True⟩ N' s' A n c X w hX (by omega) (by omega) g1 hb1 fun _ _ => trivial
end Go.Proofs.Ytpajedofffnhdaa
