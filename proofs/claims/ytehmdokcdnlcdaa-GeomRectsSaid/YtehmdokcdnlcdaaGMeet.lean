/- geom's Meet: the walk. -/
import Derived.Test.YtehmdokcdnlcdaaGCross
namespace Go.Proofs.Ytehmdokcdnlcdaa
open Go.RowKit
set_option linter.unusedVariables false


def F4 (a b c d : Pt) : Nat → Pt | 0 => a | 1 => b | 2 => c | _ => d
theorem pts4 (W : World) (a b c d : Pt) : Pts (W.alloc (.cells #[.int .i64 a.x, .int .i64 a.y, .int .i64 b.x, .int .i64 b.y, .int .i64 c.x, .int .i64 c.y, .int .i64 d.x, .int .i64 d.y] 23)) (some ⟨W.heap.size, 0, none⟩) 4 (F4 a b c d) :=
  ⟨by omega, fun _ => ⟨W.heap.size, 0, rfl, fun i hi => by
    rcases i with _ | _ | _ | _ | i
    · constructor <;> simp [F4]
    · constructor <;> simp [F4]
    · constructor <;> simp [F4]
    · constructor <;> simp [F4]
    · omega⟩⟩
theorem all4_yes {a b c d : Pt} (h : May4 a b c d) : allB (F4 a b c d) 4 = true := (allB_iff _ _).2 fun i hi => by
  rcases i with _ | _ | _ | _ | i
  · exact h.1
  · exact h.2.1
  · exact h.2.2.1
  · exact h.2.2.2
  · omega
theorem all4_no {a b c d : Pt} (h : ¬ May4 a b c d) : allB (F4 a b c d) 4 = false := by
  cases e : allB (F4 a b c d) 4
  · rfl
  · have k := (allB_iff _ _).1 e
    exact absurd ⟨k 0 (by omega), k 1 (by omega), k 2 (by omega), k 3 (by omega)⟩ h
theorem meet_yes {a b c d : Pt} (hm : May4 a b c d) (h : crossB a b c d = true ∨ onB a b c = true ∨ onB a b d = true ∨ onB c d a = true ∨ onB c d b = true) : meetB a b c d = true := decide_eq_true ⟨hm, h⟩
theorem meet_no {a b c d : Pt} (h0 : crossB a b c d = false) (h1 : onB a b c = false) (h2 : onB a b d = false) (h3 : onB c d a = false) (h4 : onB c d b = false) : meetB a b c d = false := decide_eq_false fun k => by
  rcases k.2 with h | h | h | h | h <;> simp_all
theorem meet_not {a b c d : Pt} (h : ¬ May4 a b c d) : meetB a b c d = false := decide_eq_false fun k => h k.1
set_option maxRecDepth 100000 in
set_option maxHeartbeats 16000000 in
theorem meet_any (a b c d : Pt) (w : World) : Calls Try.prog 17 #[.agg #[.int .i64 a.x, .int .i64 a.y], .agg #[.int .i64 b.x, .int .i64 b.y], .agg #[.int .i64 c.x, .int .i64 c.y], .agg #[.int .i64 d.x, .int .i64 d.y]] w fun e w' => e = .returned (.bool (meetB a b c d)) ∧ Below w.heap.size w w' := by
  have hp := pts4 ((((w.alloc (.cells #[.int .i64 a.x, .int .i64 a.y] 23)).alloc (.cells #[.int .i64 b.x, .int .i64 b.y] 23)).alloc (.cells #[.int .i64 c.x, .int .i64 c.y] 23)).alloc (.cells #[.int .i64 d.x, .int .i64 d.y] 23)) a b c d
  simp only [World.size_alloc] at hp
  have k0 := all_any _ 4 4 _ _ hp
  clear hp
  by_cases hm : May4 a b c d
  · rw [all4_yes hm] at k0
    have K0 := Lib.hid k0
    have HM := Lib.hid hm
    have m0 := fun W => cross_any a b c d W
    have m1 := fun W => on_any a b c W
    have m2 := fun W => on_any a b d W
    have m3 := fun W => on_any c d a W
    have m4 := fun W => on_any c d b W
    clear k0 hm
    cases h0 : crossB a b c d
    · rw [h0] at m0
      have M0 := Lib.hid m0
      cases h1 : onB a b c
      · rw [h1] at m1
        have M1 := Lib.hid m1
        cases h2 : onB a b d
        · rw [h2] at m2
          have M2 := Lib.hid m2
          cases h3 : onB c d a
          · rw [h3] at m3
            have M3 := Lib.hid m3
            cases h4 : onB c d b
            · rw [h4] at m4
              have M4 := Lib.hid m4
              have HE := Lib.hid (meet_no h0 h1 h2 h3 h4)
              clear h0 h1 h2 h3 h4 m0 m1 m2 m3 m4
              go_enter Try.func17, Try.ntmps17
              go_wp2_with fail
              (with_reducible refine (K0.out).mono ?_); rintro _ w1 ⟨rfl, l1⟩
              have hS1 := s8_keep (w := w) (a := a) (b := b) (c := c) (d := d) l1 (s8_alloc _ (s8_start w a b c d))
              have HS := Lib.hid hS1
              obtain ⟨_, c0, c1, c2, c3, c4, c5, c6, c7⟩ := hS1
              clear l1
              go_wp2_with fail
              (with_reducible refine (M0.out _).mono ?_); rintro _ w2 ⟨rfl, l1⟩
              have hS2 := s8_keep (w := w) (a := a) (b := b) (c := c) (d := d) l1 HS.out
              clear l1 HS
              have HS := Lib.hid hS2
              obtain ⟨_, c0, c1, c2, c3, c4, c5, c6, c7⟩ := hS2
              go_wp2_with fail
              (with_reducible refine (M1.out _).mono ?_); rintro _ w3 ⟨rfl, l1⟩
              have hS3 := s8_keep (w := w) (a := a) (b := b) (c := c) (d := d) l1 HS.out
              clear l1 HS
              have HS := Lib.hid hS3
              obtain ⟨_, c0, c1, c2, c3, c4, c5, c6, c7⟩ := hS3
              go_wp2_with fail
              (with_reducible refine (M2.out _).mono ?_); rintro _ w4 ⟨rfl, l1⟩
              have hS4 := s8_keep (w := w) (a := a) (b := b) (c := c) (d := d) l1 HS.out
              clear l1 HS
              have HS := Lib.hid hS4
              obtain ⟨_, c0, c1, c2, c3, c4, c5, c6, c7⟩ := hS4
              go_wp2_with fail
              (with_reducible refine (M3.out _).mono ?_); rintro _ w5 ⟨rfl, l1⟩
              have hS5 := s8_keep (w := w) (a := a) (b := b) (c := c) (d := d) l1 HS.out
              clear l1 HS
              have HS := Lib.hid hS5
              obtain ⟨_, c0, c1, c2, c3, c4, c5, c6, c7⟩ := hS5
              go_wp2_with fail
              (with_reducible refine (M4.out _).mono ?_); rintro _ w6 ⟨rfl, l1⟩
              have hS6 := s8_keep (w := w) (a := a) (b := b) (c := c) (d := d) l1 HS.out
              clear l1 HS
              have HS := Lib.hid hS6
              obtain ⟨_, c0, c1, c2, c3, c4, c5, c6, c7⟩ := hS6
              go_wp2
              go_ret
              exact ⟨ret_b HE.out.symm, HS.out.1⟩
            · rw [h4] at m4
              have M4 := Lib.hid m4
              have HE := Lib.hid (meet_yes HM.out (.inr (.inr (.inr (.inr h4)))))
              clear h0 h1 h2 h3 h4 m0 m1 m2 m3 m4
              go_enter Try.func17, Try.ntmps17
              go_wp2_with fail
              (with_reducible refine (K0.out).mono ?_); rintro _ w1 ⟨rfl, l1⟩
              have hS1 := s8_keep (w := w) (a := a) (b := b) (c := c) (d := d) l1 (s8_alloc _ (s8_start w a b c d))
              have HS := Lib.hid hS1
              obtain ⟨_, c0, c1, c2, c3, c4, c5, c6, c7⟩ := hS1
              clear l1
              go_wp2_with fail
              (with_reducible refine (M0.out _).mono ?_); rintro _ w2 ⟨rfl, l1⟩
              have hS2 := s8_keep (w := w) (a := a) (b := b) (c := c) (d := d) l1 HS.out
              clear l1 HS
              have HS := Lib.hid hS2
              obtain ⟨_, c0, c1, c2, c3, c4, c5, c6, c7⟩ := hS2
              go_wp2_with fail
              (with_reducible refine (M1.out _).mono ?_); rintro _ w3 ⟨rfl, l1⟩
              have hS3 := s8_keep (w := w) (a := a) (b := b) (c := c) (d := d) l1 HS.out
              clear l1 HS
              have HS := Lib.hid hS3
              obtain ⟨_, c0, c1, c2, c3, c4, c5, c6, c7⟩ := hS3
              go_wp2_with fail
              (with_reducible refine (M2.out _).mono ?_); rintro _ w4 ⟨rfl, l1⟩
              have hS4 := s8_keep (w := w) (a := a) (b := b) (c := c) (d := d) l1 HS.out
              clear l1 HS
              have HS := Lib.hid hS4
              obtain ⟨_, c0, c1, c2, c3, c4, c5, c6, c7⟩ := hS4
              go_wp2_with fail
              (with_reducible refine (M3.out _).mono ?_); rintro _ w5 ⟨rfl, l1⟩
              have hS5 := s8_keep (w := w) (a := a) (b := b) (c := c) (d := d) l1 HS.out
              clear l1 HS
              have HS := Lib.hid hS5
              obtain ⟨_, c0, c1, c2, c3, c4, c5, c6, c7⟩ := hS5
              go_wp2_with fail
              (with_reducible refine (M4.out _).mono ?_); rintro _ w6 ⟨rfl, l1⟩
              have hS6 := s8_keep (w := w) (a := a) (b := b) (c := c) (d := d) l1 HS.out
              clear l1 HS
              have HS := Lib.hid hS6
              obtain ⟨_, c0, c1, c2, c3, c4, c5, c6, c7⟩ := hS6
              go_wp2
              go_ret
              exact ⟨ret_b HE.out.symm, HS.out.1⟩
          · rw [h3] at m3
            have M3 := Lib.hid m3
            have HE := Lib.hid (meet_yes HM.out (.inr (.inr (.inr (.inl h3)))))
            clear h0 h1 h2 h3 m0 m1 m2 m3 m4
            go_enter Try.func17, Try.ntmps17
            go_wp2_with fail
            (with_reducible refine (K0.out).mono ?_); rintro _ w1 ⟨rfl, l1⟩
            have hS1 := s8_keep (w := w) (a := a) (b := b) (c := c) (d := d) l1 (s8_alloc _ (s8_start w a b c d))
            have HS := Lib.hid hS1
            obtain ⟨_, c0, c1, c2, c3, c4, c5, c6, c7⟩ := hS1
            clear l1
            go_wp2_with fail
            (with_reducible refine (M0.out _).mono ?_); rintro _ w2 ⟨rfl, l1⟩
            have hS2 := s8_keep (w := w) (a := a) (b := b) (c := c) (d := d) l1 HS.out
            clear l1 HS
            have HS := Lib.hid hS2
            obtain ⟨_, c0, c1, c2, c3, c4, c5, c6, c7⟩ := hS2
            go_wp2_with fail
            (with_reducible refine (M1.out _).mono ?_); rintro _ w3 ⟨rfl, l1⟩
            have hS3 := s8_keep (w := w) (a := a) (b := b) (c := c) (d := d) l1 HS.out
            clear l1 HS
            have HS := Lib.hid hS3
            obtain ⟨_, c0, c1, c2, c3, c4, c5, c6, c7⟩ := hS3
            go_wp2_with fail
            (with_reducible refine (M2.out _).mono ?_); rintro _ w4 ⟨rfl, l1⟩
            have hS4 := s8_keep (w := w) (a := a) (b := b) (c := c) (d := d) l1 HS.out
            clear l1 HS
            have HS := Lib.hid hS4
            obtain ⟨_, c0, c1, c2, c3, c4, c5, c6, c7⟩ := hS4
            go_wp2_with fail
            (with_reducible refine (M3.out _).mono ?_); rintro _ w5 ⟨rfl, l1⟩
            have hS5 := s8_keep (w := w) (a := a) (b := b) (c := c) (d := d) l1 HS.out
            clear l1 HS
            have HS := Lib.hid hS5
            obtain ⟨_, c0, c1, c2, c3, c4, c5, c6, c7⟩ := hS5
            go_wp2
            go_ret
            exact ⟨ret_b HE.out.symm, HS.out.1⟩
        · rw [h2] at m2
          have M2 := Lib.hid m2
          have HE := Lib.hid (meet_yes HM.out (.inr (.inr (.inl h2))))
          clear h0 h1 h2 m0 m1 m2 m3 m4
          go_enter Try.func17, Try.ntmps17
          go_wp2_with fail
          (with_reducible refine (K0.out).mono ?_); rintro _ w1 ⟨rfl, l1⟩
          have hS1 := s8_keep (w := w) (a := a) (b := b) (c := c) (d := d) l1 (s8_alloc _ (s8_start w a b c d))
          have HS := Lib.hid hS1
          obtain ⟨_, c0, c1, c2, c3, c4, c5, c6, c7⟩ := hS1
          clear l1
          go_wp2_with fail
          (with_reducible refine (M0.out _).mono ?_); rintro _ w2 ⟨rfl, l1⟩
          have hS2 := s8_keep (w := w) (a := a) (b := b) (c := c) (d := d) l1 HS.out
          clear l1 HS
          have HS := Lib.hid hS2
          obtain ⟨_, c0, c1, c2, c3, c4, c5, c6, c7⟩ := hS2
          go_wp2_with fail
          (with_reducible refine (M1.out _).mono ?_); rintro _ w3 ⟨rfl, l1⟩
          have hS3 := s8_keep (w := w) (a := a) (b := b) (c := c) (d := d) l1 HS.out
          clear l1 HS
          have HS := Lib.hid hS3
          obtain ⟨_, c0, c1, c2, c3, c4, c5, c6, c7⟩ := hS3
          go_wp2_with fail
          (with_reducible refine (M2.out _).mono ?_); rintro _ w4 ⟨rfl, l1⟩
          have hS4 := s8_keep (w := w) (a := a) (b := b) (c := c) (d := d) l1 HS.out
          clear l1 HS
          have HS := Lib.hid hS4
          obtain ⟨_, c0, c1, c2, c3, c4, c5, c6, c7⟩ := hS4
          go_wp2
          go_ret
          exact ⟨ret_b HE.out.symm, HS.out.1⟩
      · rw [h1] at m1
        have M1 := Lib.hid m1
        have HE := Lib.hid (meet_yes HM.out (.inr (.inl h1)))
        clear h0 h1 m0 m1 m2 m3 m4
        go_enter Try.func17, Try.ntmps17
        go_wp2_with fail
        (with_reducible refine (K0.out).mono ?_); rintro _ w1 ⟨rfl, l1⟩
        have hS1 := s8_keep (w := w) (a := a) (b := b) (c := c) (d := d) l1 (s8_alloc _ (s8_start w a b c d))
        have HS := Lib.hid hS1
        obtain ⟨_, c0, c1, c2, c3, c4, c5, c6, c7⟩ := hS1
        clear l1
        go_wp2_with fail
        (with_reducible refine (M0.out _).mono ?_); rintro _ w2 ⟨rfl, l1⟩
        have hS2 := s8_keep (w := w) (a := a) (b := b) (c := c) (d := d) l1 HS.out
        clear l1 HS
        have HS := Lib.hid hS2
        obtain ⟨_, c0, c1, c2, c3, c4, c5, c6, c7⟩ := hS2
        go_wp2_with fail
        (with_reducible refine (M1.out _).mono ?_); rintro _ w3 ⟨rfl, l1⟩
        have hS3 := s8_keep (w := w) (a := a) (b := b) (c := c) (d := d) l1 HS.out
        clear l1 HS
        have HS := Lib.hid hS3
        obtain ⟨_, c0, c1, c2, c3, c4, c5, c6, c7⟩ := hS3
        go_wp2
        go_ret
        exact ⟨ret_b HE.out.symm, HS.out.1⟩
    · rw [h0] at m0
      have M0 := Lib.hid m0
      have HE := Lib.hid (meet_yes HM.out (.inl h0))
      clear h0 m0 m1 m2 m3 m4
      go_enter Try.func17, Try.ntmps17
      go_wp2_with fail
      (with_reducible refine (K0.out).mono ?_); rintro _ w1 ⟨rfl, l1⟩
      have hS1 := s8_keep (w := w) (a := a) (b := b) (c := c) (d := d) l1 (s8_alloc _ (s8_start w a b c d))
      have HS := Lib.hid hS1
      obtain ⟨_, c0, c1, c2, c3, c4, c5, c6, c7⟩ := hS1
      clear l1
      go_wp2_with fail
      (with_reducible refine (M0.out _).mono ?_); rintro _ w2 ⟨rfl, l1⟩
      have hS2 := s8_keep (w := w) (a := a) (b := b) (c := c) (d := d) l1 HS.out
      clear l1 HS
      have HS := Lib.hid hS2
      obtain ⟨_, c0, c1, c2, c3, c4, c5, c6, c7⟩ := hS2
      go_wp2
      go_ret
      exact ⟨ret_b HE.out.symm, HS.out.1⟩
  · rw [all4_no hm] at k0
    have K0 := Lib.hid k0
    have HE := Lib.hid (meet_not hm)
    clear k0 hm
    go_enter Try.func17, Try.ntmps17
    go_wp2_with fail
    (with_reducible refine (K0.out).mono ?_); rintro _ w1 ⟨rfl, l1⟩
    have hS1 := s8_keep (w := w) (a := a) (b := b) (c := c) (d := d) l1 (s8_alloc _ (s8_start w a b c d))
    have HS := Lib.hid hS1
    obtain ⟨_, c0, c1, c2, c3, c4, c5, c6, c7⟩ := hS1
    clear l1
    go_wp2
    go_ret
    exact ⟨ret_b HE.out.symm, HS.out.1⟩
end Go.Proofs.Ytehmdokcdnlcdaa
