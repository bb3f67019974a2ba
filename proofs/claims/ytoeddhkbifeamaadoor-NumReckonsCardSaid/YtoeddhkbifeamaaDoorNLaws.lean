/- NumLaws: the walk. -/
import Derived.Test.YtoeddhkbifeamaaDoorNAwake
namespace Go.Proofs.YtoeddhkbifeamaaDoor
open Go.RowKit
set_option linter.unusedVariables false

theorem plus_comm (a b : Int) : plusV b a = plusV a b ∧ plusE b a = plusE a b := by
  have h : plusE b a = plusE a b := by unfold plusE; rw [Int.add_comm]; cases heldB a <;> cases heldB b <;> simp
  exact ⟨by unfold plusV; rw [h, Int.add_comm], h⟩
theorem times_comm (a b : Int) : timesV b a = timesV a b ∧ timesE b a = timesE a b := by
  have h : timesP b a = timesP a b := Nat.mul_comm _ _
  have h2 : (decide (b < 0) != decide (a < 0)) = (decide (a < 0) != decide (b < 0)) := by cases decide (b < 0) <;> cases decide (a < 0) <;> rfl
  exact ⟨by unfold timesV; rw [h, h2]; cases heldB a <;> cases heldB b <;> simp, by unfold timesE; rw [h]; cases heldB a <;> cases heldB b <;> simp⟩
theorem plus_zero (a : Int) (h : heldB a = true) : plusV a 0 = a ∧ plusE a 0 = 0 := by
  have e : plusE a 0 = 0 := by unfold plusE; rw [if_pos ⟨h, by decide⟩, Int.add_zero, if_pos h]
  exact ⟨by unfold plusV; rw [e, if_pos rfl, Int.add_zero], e⟩
theorem times_one (a : Int) (h : heldB a = true) : timesV a 10000000 = a ∧ timesE a 10000000 = 0 := by
  have hp : timesP a 10000000 = a.natAbs * 10000000 := rfl
  have h1 : a.natAbs * 10000000 % 10000000 = 0 := Nat.mul_mod_left _ _
  have h2 : a.natAbs * 10000000 / 10000000 = a.natAbs := Nat.mul_div_cancel _ (by omega)
  obtain ⟨b1, b2⟩ := heldB_yes h
  have h3 : a.natAbs ≤ 9000000000000000000 := by omega
  refine ⟨?_, ?_⟩
  · unfold timesV numV
    rw [if_pos ⟨h, by decide⟩, hp, if_pos h1, h2, if_pos h3]
    by_cases hn : a < 0
    · rw [show decide (a < 0) = true from decide_eq_true hn]; simp; omega
    · rw [show decide (a < 0) = false from decide_eq_false hn]; simp; omega
  · unfold timesE numE
    rw [if_pos ⟨h, by decide⟩, hp, if_pos h1, h2, if_pos h3]
theorem plus_no (a : Int) (h : heldB a = false) : plusV a 0 = 0 ∧ plusE a 0 = 2 := by
  have e : plusE a 0 = 2 := by unfold plusE; rw [if_neg (by rw [h]; simp)]
  exact ⟨by unfold plusV; rw [e, if_neg (by decide)], e⟩
theorem times_no (a : Int) (h : heldB a = false) : timesV a 10000000 = 0 ∧ timesE a 10000000 = 2 :=
  ⟨by unfold timesV; rw [if_neg (by rw [h]; simp)], by unfold timesE; rw [if_neg (by rw [h]; simp)]⟩
def In64 (a : Int) : Prop := -9223372036854775808 ≤ a ∧ a ≤ 9223372036854775807
def Plus_ (a b x e : Int) : Prop := ∀ w, Calls Tryd.prog 16 #[.int .i64 a, .int .i64 b] w fun r w' => r = .returned (.tuple #[.int .i64 x, .int .i64 e]) ∧ w = w'
def Times_ (a b x e : Int) : Prop := ∀ w, Calls Tryd.prog 18 #[.int .i64 a, .int .i64 b] w fun r w' => r = .returned (.tuple #[.int .i64 x, .int .i64 e]) ∧ ∃ n, w' = w.drewN n
theorem tab_draws {w : World} (h : TabW w) (n : Nat) : TabW (w.drewN n) := h
theorem below_draws {B : Nat} {a w : World} (h : Below B a w) (n : Nat) : Below B a (w.drewN n) := ⟨h.os, h.tape, h.output, h.size, h.block⟩
set_option maxHeartbeats 2000000 in
set_option maxRecDepth 100000 in
theorem numLaws_gen (a b x e z g p i q : Int) (K1 : Plus_ a b x e) (K2 : Plus_ b a x e) (K3 : Times_ a b z g) (K4 : Times_ b a z g) (K5 : Plus_ a 0 p i) (K6 : Times_ a 10000000 q i)
    (hor : (i = 2 ∧ p = 0 ∧ q = 0) ∨ (i = 0 ∧ p = a ∧ q = a)) (w : World) (h : TabW w) :
    Calls Tryd.prog 8 #[.int .i64 a, .int .i64 b] w fun r w' => r = .returned (.bool true) ∧ Below w.heap.size w w' := by
  have H := Lib.hid h
  have H1 := Lib.hid K1
  have H2 := Lib.hid K2
  have H3 := Lib.hid K3
  have H4 := Lib.hid K4
  have H5 := Lib.hid K5
  have H6 := Lib.hid K6
  have q1 : (x != x) = false := by simp
  have q2 : (e != e) = false := by simp
  have q3 : (z != z) = false := by simp
  have q4 : (g != g) = false := by simp
  have q5 : (i != i) = false := by simp
  clear h K1 K2 K3 K4 K5 K6
  rcases hor with ⟨rfl, rfl, rfl⟩ | ⟨rfl, rfl, rfl⟩
  · go_enter Tryd.func8, Tryd.ntmps8
    go_wp2_with fail
    refine (H1.out _).mono ?_
    rintro _ _ ⟨rfl, rfl⟩
    go_wp2_with fail
    refine (H2.out _).mono ?_
    rintro _ _ ⟨rfl, rfl⟩
    go_wp2_with fail
    refine (H3.out _).mono ?_
    rintro _ _ ⟨rfl, n1, rfl⟩
    go_wp2_with fail
    refine (H4.out _).mono ?_
    rintro _ _ ⟨rfl, n2, rfl⟩
    go_wp2_with fail
    refine (H5.out _).mono ?_
    rintro _ _ ⟨rfl, rfl⟩
    go_wp2_with fail
    refine (H6.out _).mono ?_
    rintro _ _ ⟨rfl, n3, rfl⟩
    go_wp2_with fail
    refine (awake_any _ (tab_draws H.out (n1 + n2 + n3))).mono ?_
    rintro _ w4 ⟨rfl, l4⟩
    have L4 := Lib.hid ((below_draws (Below.refl w.heap.size w) (n1 + n2 + n3)).trans l4)
    clear l4
    go_wp2
    go_ret
    exact ⟨rfl, L4.out⟩
  · go_enter Tryd.func8, Tryd.ntmps8
    go_wp2_with fail
    refine (H1.out _).mono ?_
    rintro _ _ ⟨rfl, rfl⟩
    go_wp2_with fail
    refine (H2.out _).mono ?_
    rintro _ _ ⟨rfl, rfl⟩
    go_wp2_with fail
    refine (H3.out _).mono ?_
    rintro _ _ ⟨rfl, n1, rfl⟩
    go_wp2_with fail
    refine (H4.out _).mono ?_
    rintro _ _ ⟨rfl, n2, rfl⟩
    go_wp2_with fail
    refine (H5.out _).mono ?_
    rintro _ _ ⟨rfl, rfl⟩
    go_wp2_with fail
    refine (H6.out _).mono ?_
    rintro _ _ ⟨rfl, n3, rfl⟩
    go_wp2_with fail
    refine (awake_any _ (tab_draws H.out (n1 + n2 + n3))).mono ?_
    rintro _ w4 ⟨rfl, l4⟩
    have L4 := Lib.hid ((below_draws (Below.refl w.heap.size w) (n1 + n2 + n3)).trans l4)
    clear l4
    go_wp2
    go_ret
    exact ⟨rfl, L4.out⟩
theorem numLaws_walk (a b : Int) (ha : In64 a) (hb : In64 b) (w : World) (h : TabW w) :
    Calls Tryd.prog 8 #[.int .i64 a, .int .i64 b] w fun r w' => r = .returned (.bool true) ∧ Below w.heap.size w w' := by
  have K2 := fun W => plus_any b a W hb ha
  have K4 := fun W => times_any b a W
  rw [(plus_comm a b).1, (plus_comm a b).2] at K2
  rw [(times_comm a b).1, (times_comm a b).2] at K4
  have K5 := fun W => plus_any a 0 W ha ⟨by omega, by omega⟩
  have K6 := fun W => times_any a 10000000 W
  cases hh : heldB a
  · rw [(plus_no a hh).1, (plus_no a hh).2] at K5
    rw [(times_no a hh).1, (times_no a hh).2] at K6
    exact numLaws_gen a b _ _ _ _ 0 2 0 (fun W => plus_any a b W ha hb) K2 (fun W => times_any a b W) K4 K5 K6 (.inl ⟨rfl, rfl, rfl⟩) w h
  · rw [(plus_zero a hh).1, (plus_zero a hh).2] at K5
    rw [(times_one a hh).1, (times_one a hh).2] at K6
    exact numLaws_gen a b _ _ _ _ a 0 a (fun W => plus_any a b W ha hb) K2 (fun W => times_any a b W) K4 K5 K6 (.inr ⟨rfl, rfl, rfl⟩) w h
end Go.Proofs.YtoeddhkbifeamaaDoor
