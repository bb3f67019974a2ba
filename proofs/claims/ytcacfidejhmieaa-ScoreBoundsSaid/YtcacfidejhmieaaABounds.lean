/- score: the law ScoreBounds walked. -/
import Derived.Test.YtcacfidejhmieaaAAlways
namespace Go.Proofs.Ytcacfidejhmieaa
open Go.RowKit
set_option linter.unusedVariables false
set_option linter.unusedSimpArgs false

open Go.Shelf
attribute [local go_sem] Oper.semAt_some
abbrev Box4 (w : World) (T L d0 d1 : Int) (W : World) : Prop := Below w.heap.size w W ∧ W.cell? ⟨w.heap.size, 0, none⟩ = some (.int .i64 T) ∧ W.cell? ⟨w.heap.size, 1, none⟩ = some (.int .i64 L) ∧ W.cell? ⟨w.heap.size + 1, 0, none⟩ = some (.int .i64 d0) ∧ W.cell? ⟨w.heap.size + 1, 1, none⟩ = some (.int .i64 d1)
theorem box4_drew {w W : World} {T L d0 d1 : Int} (h : Box4 w T L d0 d1 W) : Box4 w T L d0 d1 W.drew := ⟨h.1.drew, h.2⟩
theorem box4_drewN {w W : World} {T L d0 d1 : Int} (h : Box4 w T L d0 d1 W) (k : Nat) : Box4 w T L d0 d1 (W.drewN k) := ⟨h.1.trans (below_drewN _ _ _), h.2⟩
theorem box4_keep {w W W' : World} {T L d0 d1 : Int} (h : Box4 w T L d0 d1 W) (hb : Below W.heap.size W W') : Box4 w T L d0 d1 W' := by
  obtain ⟨h0, h1, h2, h3, h4⟩ := h
  exact ⟨h0.trans (hb.mono h0.size), bcell hb h1 (cell_in h1), bcell hb h2 (cell_in h2), bcell hb h3 (cell_in h3), bcell hb h4 (cell_in h4)⟩
set_option maxHeartbeats 16000000 in
theorem scoreBounds_no_a (T L d0 d1 tf len more less : Int) (h1 : rightB T L d0 tf len = false) (w : World) : Calls Try.prog 6 #[.agg #[.int .i64 T, .int .i64 L], .agg #[.int .i64 d0, .int .i64 d1], .agg #[.int .i64 tf, .int .i64 len, .int .i64 more, .int .i64 less]] w fun e w' => e = .returned (.bool true) ∧ Below w.heap.size w w' := by
  have HR1 := Lib.hid (right_is h1)
  have HS1 := Lib.hid (score_is (score_wrong h1))
  have HS2 := Lib.hid (score_any T L d0 more less)
  generalize scoreV T L d0 more less = sv at *
  clear h1
  have HAw := Lib.hid awake_any
  go_enter Try.func6, Try.ntmps6
  go_wp2_with fail
  have SB : ∀ k, Box4 w T L d0 d1 ((((w.alloc (.cells #[.int .i64 T, .int .i64 L] 27)).alloc (.cells #[.int .i64 d0, .int .i64 d1] 28)).alloc (.cells #[.int .i64 tf, .int .i64 len, .int .i64 more, .int .i64 less] 40)).drewN k) := fun k => ⟨((((Below.refl _ _).alloc (Nat.le_refl _) _).alloc (by simp) _).alloc (by simp; omega) _).trans (below_drewN _ _ _), by go_simp, by go_simp, by go_simp, by go_simp⟩
  have HSB := Lib.hid SB
  clear SB
  go_quiet (fail)
  have SB := HSB.out nq
  obtain ⟨_, c1, c2, c3, c4⟩ := id SB
  generalize (((w.alloc (.cells #[.int .i64 T, .int .i64 L] 27)).alloc (.cells #[.int .i64 d0, .int .i64 d1] 28)).alloc (.cells #[.int .i64 tf, .int .i64 len, .int .i64 more, .int .i64 less] 40)).drewN nq = B at SB c1 c2 c3 c4 ⊢
  have SB0 := Lib.hid SB
  clear SB HSB
  go_upto_region 3 with (go_at_call 18; (with_reducible refine (HR1.out _).mono ?_); rintro e w1 ⟨rfl, l0⟩; have SB1 := Lib.hid (box4_keep SB0.out l0); obtain ⟨_, c1, c2, c3, c4⟩ := id SB1.out; clear l0)
  go_region_held3 (fun W => Below w.heap.size w W ∧ W.cell? ⟨w.heap.size, 0, none⟩ = some (.int .i64 T) ∧ W.cell? ⟨w.heap.size, 1, none⟩ = some (.int .i64 L) ∧ W.cell? ⟨w.heap.size + 1, 0, none⟩ = some (.int .i64 d0) ∧ W.cell? ⟨w.heap.size + 1, 1, none⟩ = some (.int .i64 d1)) (repeat (first | with_reducible assumption | with_reducible exact SB1.out | with_reducible refine box4_drew ?_)) (first
    | (go_at_call 17; (with_reducible refine (HS1.out _).mono ?_); rintro e w3 ⟨rfl, l0⟩; have hS3 := box4_keep (w := w) (T := T) (L := L) (d0 := d0) (d1 := d1) (by repeat (first | with_reducible assumption | with_reducible exact SB1.out | with_reducible refine box4_drew ?_)) l0; clear l0)
    | (go_at_call 17; (with_reducible refine (HS2.out _).mono ?_); rintro e w4 ⟨rfl, l0⟩; have hS4 := box4_keep (w := w) (T := T) (L := L) (d0 := d0) (d1 := d1) (by repeat (first | with_reducible assumption | with_reducible exact SB1.out | with_reducible refine box4_drew ?_)) l0; clear l0)
    | (go_at_call 10; (with_reducible refine (HAw.out _).mono ?_); rintro e w5 ⟨rfl, l0⟩; have hS5 := box4_keep (w := w) (T := T) (L := L) (d0 := d0) (d1 := d1) (by repeat (first | with_reducible assumption | with_reducible exact SB1.out | with_reducible refine box4_drew ?_)) l0; clear l0))
  have SB5 := Lib.hid hS5
  clear hS3 hS4 hS5
  go_wp2_with fail
  go_ret
  exact ⟨rfl, SB5.out.1⟩
set_option maxHeartbeats 16000000 in
theorem scoreBounds_no_b (T L d0 d1 tf len more less : Int) (h1 : rightB T L d0 tf len = true) (h2 : rightB T L d0 more less = false) (w : World) : Calls Try.prog 6 #[.agg #[.int .i64 T, .int .i64 L], .agg #[.int .i64 d0, .int .i64 d1], .agg #[.int .i64 tf, .int .i64 len, .int .i64 more, .int .i64 less]] w fun e w' => e = .returned (.bool true) ∧ Below w.heap.size w w' := by
  have HR1 := Lib.hid (right_is h1)
  have HR2 := Lib.hid (right_is h2)
  have HS1 := Lib.hid (score_any T L d0 tf len)
  have HS2 := Lib.hid (score_is (score_wrong h2))
  generalize scoreV T L d0 tf len = sv at *
  clear h1 h2
  have HAw := Lib.hid awake_any
  go_enter Try.func6, Try.ntmps6
  go_wp2_with fail
  have SB : ∀ k, Box4 w T L d0 d1 ((((w.alloc (.cells #[.int .i64 T, .int .i64 L] 27)).alloc (.cells #[.int .i64 d0, .int .i64 d1] 28)).alloc (.cells #[.int .i64 tf, .int .i64 len, .int .i64 more, .int .i64 less] 40)).drewN k) := fun k => ⟨((((Below.refl _ _).alloc (Nat.le_refl _) _).alloc (by simp) _).alloc (by simp; omega) _).trans (below_drewN _ _ _), by go_simp, by go_simp, by go_simp, by go_simp⟩
  have HSB := Lib.hid SB
  clear SB
  go_quiet (fail)
  have SB := HSB.out nq
  obtain ⟨_, c1, c2, c3, c4⟩ := id SB
  generalize (((w.alloc (.cells #[.int .i64 T, .int .i64 L] 27)).alloc (.cells #[.int .i64 d0, .int .i64 d1] 28)).alloc (.cells #[.int .i64 tf, .int .i64 len, .int .i64 more, .int .i64 less] 40)).drewN nq = B at SB c1 c2 c3 c4 ⊢
  have SB0 := Lib.hid SB
  clear SB HSB
  go_upto_region 3 with (first
    | (go_at_call 18; (with_reducible refine (HR1.out _).mono ?_); rintro e w1 ⟨rfl, l0⟩; have SB1 := Lib.hid (box4_keep SB0.out l0); obtain ⟨_, c1, c2, c3, c4⟩ := id SB1.out; clear l0)
    | (go_at_call 18; (with_reducible refine (HR2.out _).mono ?_); rintro e w2 ⟨rfl, l0⟩; have SB2 := Lib.hid (box4_keep SB1.out l0); obtain ⟨_, c1, c2, c3, c4⟩ := id SB2.out; clear l0))
  go_region_held3 (fun W => Below w.heap.size w W ∧ W.cell? ⟨w.heap.size, 0, none⟩ = some (.int .i64 T) ∧ W.cell? ⟨w.heap.size, 1, none⟩ = some (.int .i64 L) ∧ W.cell? ⟨w.heap.size + 1, 0, none⟩ = some (.int .i64 d0) ∧ W.cell? ⟨w.heap.size + 1, 1, none⟩ = some (.int .i64 d1)) (repeat (first | with_reducible assumption | with_reducible exact SB2.out | with_reducible refine box4_drew ?_)) (first
    | (go_at_call 17; (with_reducible refine (HS1.out _).mono ?_); rintro e w3 ⟨rfl, l0⟩; have hS3 := box4_keep (w := w) (T := T) (L := L) (d0 := d0) (d1 := d1) (by repeat (first | with_reducible assumption | with_reducible exact SB2.out | with_reducible refine box4_drew ?_)) l0; clear l0)
    | (go_at_call 17; (with_reducible refine (HS2.out _).mono ?_); rintro e w4 ⟨rfl, l0⟩; have hS4 := box4_keep (w := w) (T := T) (L := L) (d0 := d0) (d1 := d1) (by repeat (first | with_reducible assumption | with_reducible exact SB2.out | with_reducible refine box4_drew ?_)) l0; clear l0)
    | (go_at_call 10; (with_reducible refine (HAw.out _).mono ?_); rintro e w5 ⟨rfl, l0⟩; have hS5 := box4_keep (w := w) (T := T) (L := L) (d0 := d0) (d1 := d1) (by repeat (first | with_reducible assumption | with_reducible exact SB2.out | with_reducible refine box4_drew ?_)) l0; clear l0))
  have SB5 := Lib.hid hS5
  clear hS3 hS4 hS5
  go_wp2_with fail
  go_ret
  exact ⟨rfl, SB5.out.1⟩
set_option maxHeartbeats 16000000 in
theorem scoreBounds_yes (T L d0 d1 tf len more less : Int) (h1 : rightB T L d0 tf len = true) (h2 : rightB T L d0 more less = true) (w : World) : Calls Try.prog 6 #[.agg #[.int .i64 T, .int .i64 L], .agg #[.int .i64 d0, .int .i64 d1], .agg #[.int .i64 tf, .int .i64 len, .int .i64 more, .int .i64 less]] w fun e w' => e = .returned (.bool true) ∧ Below w.heap.size w w' := by
  have HR1 := Lib.hid (right_is h1)
  have HR2 := Lib.hid (right_is h2)
  have HS1 := Lib.hid (score_is (T := T) (L := L) (df := d0) (tf := tf) (len := len) rfl)
  have HS2 := Lib.hid (score_is (T := T) (L := L) (df := d0) (tf := more) (len := less) rfl)
  have HM : Hid (tf ≤ more → less ≤ len → scoreV T L d0 tf len ≤ scoreV T L d0 more less) := Lib.hid (score_mono h1 h2)
  have a1 := score_right h1
  have b1 := score_right h2
  have hk : knownB T d0 = true := by unfold rightB at h1; rw [Bool.and_eq_true] at h1; exact h1.1
  have HWM : Hid (d0 ≤ d1 → weightV T d1 ≤ weightV T d0) := Lib.hid (weight_mono hk)
  have wp := weight_pos hk
  have HW0 := Lib.hid (weight_any T L d0)
  have HW1 := Lib.hid (weight_any T L d1)
  generalize scoreV T L d0 tf len = a at *
  generalize scoreV T L d0 more less = b at *
  generalize weightV T d0 = x0 at *
  generalize weightV T d1 = x1 at *
  clear h1 h2 hk
  have HAw := Lib.hid awake_any
  go_enter Try.func6, Try.ntmps6
  go_wp2_with fail
  have SB : ∀ k, Box4 w T L d0 d1 ((((w.alloc (.cells #[.int .i64 T, .int .i64 L] 27)).alloc (.cells #[.int .i64 d0, .int .i64 d1] 28)).alloc (.cells #[.int .i64 tf, .int .i64 len, .int .i64 more, .int .i64 less] 40)).drewN k) := fun k => ⟨((((Below.refl _ _).alloc (Nat.le_refl _) _).alloc (by simp) _).alloc (by simp; omega) _).trans (below_drewN _ _ _), by go_simp, by go_simp, by go_simp, by go_simp⟩
  have HSB := Lib.hid SB
  clear SB
  go_quiet (fail)
  have SB := HSB.out nq
  obtain ⟨_, c1, c2, c3, c4⟩ := id SB
  generalize (((w.alloc (.cells #[.int .i64 T, .int .i64 L] 27)).alloc (.cells #[.int .i64 d0, .int .i64 d1] 28)).alloc (.cells #[.int .i64 tf, .int .i64 len, .int .i64 more, .int .i64 less] 40)).drewN nq = B at SB c1 c2 c3 c4 ⊢
  have SB0 := Lib.hid SB
  clear SB HSB
  go_upto_region 4 with (first
    | (go_at_call 18; (with_reducible refine (HR1.out _).mono ?_); rintro e w1 ⟨rfl, l0⟩; have SB1 := Lib.hid (box4_keep SB0.out l0); obtain ⟨_, c1, c2, c3, c4⟩ := id SB1.out; clear l0)
    | (go_at_call 18; (with_reducible refine (HR2.out _).mono ?_); rintro e w2 ⟨rfl, l0⟩; have SB2 := Lib.hid (box4_keep SB1.out l0); obtain ⟨_, c1, c2, c3, c4⟩ := id SB2.out; clear l0))
  clear c1 c2 c3 c4
  go_region_held3 (fun W => Below w.heap.size w W ∧ W.cell? ⟨w.heap.size, 0, none⟩ = some (.int .i64 T) ∧ W.cell? ⟨w.heap.size, 1, none⟩ = some (.int .i64 L) ∧ W.cell? ⟨w.heap.size + 1, 0, none⟩ = some (.int .i64 d0) ∧ W.cell? ⟨w.heap.size + 1, 1, none⟩ = some (.int .i64 d1)) (repeat (first | with_reducible assumption | with_reducible exact SB2.out | with_reducible refine box4_drew ?_)) (first
    | (go_at_call 17; (with_reducible refine (HS1.out _).mono ?_); rintro e w3 ⟨rfl, l0⟩; have hS3 := box4_keep (w := w) (T := T) (L := L) (d0 := d0) (d1 := d1) (by repeat (first | with_reducible assumption | with_reducible exact SB2.out | with_reducible refine box4_drew ?_)) l0; clear l0)
    | (go_at_call 17; (with_reducible refine (HS2.out _).mono ?_); rintro e w4 ⟨rfl, l0⟩; have hS4 := box4_keep (w := w) (T := T) (L := L) (d0 := d0) (d1 := d1) (by repeat (first | with_reducible assumption | with_reducible exact SB2.out | with_reducible refine box4_drew ?_)) l0; clear l0))
  obtain ⟨_, c1, c2, c3, c4⟩ := id hS4
  have SB4 := Lib.hid hS4
  clear hS3 hS4
  have HT : Hid (tf ≤ more ∧ less ≤ len ∧ a ≤ b ∨ tf ≤ more ∧ len < less ∨ more < tf) := Lib.hid (by
    by_cases q1 : tf ≤ more
    · by_cases q2 : less ≤ len
      · exact .inl ⟨q1, q2, HM.out q1 q2⟩
      · exact .inr (.inl ⟨q1, by omega⟩)
    · exact .inr (.inr (by omega)))
  rcases HT.out with ⟨q1, q2, q3⟩ | ⟨q1, q2⟩ | q1
  all_goals
    by_cases q5 : d0 ≤ d1
    · have q6 := HWM.out q5
      go_upto_region 7 with (fail)
      go_region_held3 (fun W => Below w.heap.size w W ∧ W.cell? ⟨w.heap.size, 0, none⟩ = some (.int .i64 T) ∧ W.cell? ⟨w.heap.size, 1, none⟩ = some (.int .i64 L) ∧ W.cell? ⟨w.heap.size + 1, 0, none⟩ = some (.int .i64 d0) ∧ W.cell? ⟨w.heap.size + 1, 1, none⟩ = some (.int .i64 d1)) (repeat (first | with_reducible assumption | with_reducible exact SB4.out | with_reducible refine box4_drew ?_)) (first
        | (go_at_call 15; (with_reducible refine (HW1.out _).mono ?_); rintro e w5 ⟨rfl, l0⟩; have hS5 := box4_keep (w := w) (T := T) (L := L) (d0 := d0) (d1 := d1) (by repeat (first | with_reducible assumption | with_reducible exact SB4.out | with_reducible refine box4_drew ?_)) l0; clear l0)
        | (go_at_call 15; (with_reducible refine (HW0.out _).mono ?_); rintro e w6 ⟨rfl, l0⟩; have hS6 := box4_keep (w := w) (T := T) (L := L) (d0 := d0) (d1 := d1) (by repeat (first | with_reducible assumption | with_reducible exact SB4.out | with_reducible refine box4_drew ?_)) l0; clear l0))
      obtain ⟨_, e1, e2, e3, e4⟩ := id hS6
      have SB7 := Lib.hid hS6
      clear hS5 hS6 c1 c2 c3 c4
      go_wp2_with (first
        | (go_at_call 15; (with_reducible refine (HW0.out _).mono ?_); rintro e w8 ⟨rfl, l0⟩; have SB8 := Lib.hid (box4_keep SB7.out l0); clear l0)
        | (go_at_call 10; (with_reducible refine (HAw.out _).mono ?_); rintro e w9 ⟨rfl, l0⟩; have SB9 := Lib.hid (box4_keep SB8.out l0); clear l0))
      go_ret
      exact ⟨rfl, SB9.out.1⟩
    · have q6 : decide (d0 ≤ d1) = false := decide_eq_false q5
      clear q5
      go_upto_region 7 with (fail)
      go_quiet (fail)
      have SB7 := Lib.hid (box4_drewN SB4.out nq)
      obtain ⟨_, e1, e2, e3, e4⟩ := id SB7.out
      generalize w4.drewN nq = w7 at *
      clear c1 c2 c3 c4
      go_wp2_with (first
        | (go_at_call 15; (with_reducible refine (HW0.out _).mono ?_); rintro e w8 ⟨rfl, l0⟩; have SB8 := Lib.hid (box4_keep SB7.out l0); clear l0)
        | (go_at_call 10; (with_reducible refine (HAw.out _).mono ?_); rintro e w9 ⟨rfl, l0⟩; have SB9 := Lib.hid (box4_keep SB8.out l0); clear l0))
      go_ret
      exact ⟨rfl, SB9.out.1⟩
theorem scoreBounds_walk (T L d0 d1 tf len more less : Int) (w : World) : Calls Try.prog 6 #[.agg #[.int .i64 T, .int .i64 L], .agg #[.int .i64 d0, .int .i64 d1], .agg #[.int .i64 tf, .int .i64 len, .int .i64 more, .int .i64 less]] w fun e w' => e = .returned (.bool true) ∧ Below w.heap.size w w' := by
  cases h1 : rightB T L d0 tf len with
  | false => exact scoreBounds_no_a T L d0 d1 tf len more less h1 w
  | true =>
    cases h2 : rightB T L d0 more less with
    | false => exact scoreBounds_no_b T L d0 d1 tf len more less h1 h2 w
    | true => exact scoreBounds_yes T L d0 d1 tf len more less h1 h2 w
end Go.Proofs.Ytcacfidejhmieaa
