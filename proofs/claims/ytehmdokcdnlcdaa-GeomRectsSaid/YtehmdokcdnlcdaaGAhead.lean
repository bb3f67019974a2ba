/- geom's ahead: the walk. -/
import Derived.Test.YtehmdokcdnlcdaaGOn
namespace Go.Proofs.Ytehmdokcdnlcdaa
open Go.RowKit
set_option linter.unusedVariables false


def ah0 (a b p : Pt) : Bool := decide (a.y ≤ p.y ∧ p.y < b.y ∧ 0 < turnI a b p)
def ahB (a b p : Pt) : Bool := if b.y < a.y then ah0 b a p else ah0 a b p
theorem ah_no {a b p : Pt} (hs : ¬ b.y < a.y) (h : ¬ (a.y ≤ p.y ∧ p.y < b.y ∧ 0 < turnI a b p)) : ahB a b p = false := by unfold ahB; rw [if_neg hs]; exact decide_eq_false h
theorem ah_no_sw {a b p : Pt} (hs : b.y < a.y) (h : ¬ (b.y ≤ p.y ∧ p.y < a.y ∧ 0 < turnI b a p)) : ahB a b p = false := by unfold ahB; rw [if_pos hs]; exact decide_eq_false h
theorem ah_yes {a b p : Pt} (hs : ¬ b.y < a.y) (h1 : a.y ≤ p.y) (h2 : p.y < b.y) : ahB a b p = decide (0 < turnI a b p) := by unfold ahB; rw [if_neg hs]; unfold ah0; simp [h1, h2]
theorem ah_yes_sw {a b p : Pt} (hs : b.y < a.y) (h1 : b.y ≤ p.y) (h2 : p.y < a.y) : ahB a b p = decide (0 < turnI b a p) := by unfold ahB; rw [if_pos hs]; unfold ah0; simp [h1, h2]
set_option maxRecDepth 100000 in
set_option maxHeartbeats 8000000 in
theorem ahead_any (a b p : Pt) (w : World) : Calls Try.prog 45 #[.agg #[.int .i64 a.x, .int .i64 a.y], .agg #[.int .i64 b.x, .int .i64 b.y], .agg #[.int .i64 p.x, .int .i64 p.y]] w fun e w' => e = .returned (.bool (ahB a b p)) ∧ Below w.heap.size w w' := by
  by_cases hs : b.y < a.y
  · by_cases h1 : b.y ≤ p.y
    · by_cases h2 : p.y < a.y
      · have HE := Lib.hid (ah_yes_sw (a := a) (b := b) (p := p) hs h1 h2)
        have k := fun W => turn_any b a p W
        obtain ⟨t, ht⟩ : ∃ t, t = turnI b a p := ⟨_, rfl⟩
        rw [← ht] at k HE
        have K := Lib.hid k
        clear k ht
        go_enter Try.func45, Try.ntmps45
        go_wp2_with fail
        (with_reducible refine (K.out _).mono ?_); rintro _ w1 ⟨rfl, l1⟩
        have L1 := Lib.hid (((((Below.refl w.heap.size w).alloc (Nat.le_refl _) _).alloc (by simp) _).alloc (by simp; omega) _).trans (l1.mono (by simp; omega)))
        clear l1
        go_wp2
        go_ret
        exact ⟨ret_b HE.out.symm, L1.out⟩
      · have HE := Lib.hid (ah_no_sw (a := a) (b := b) (p := p) hs fun h => h2 h.2.1)
        go_enter Try.func45, Try.ntmps45
        go_wp2
        go_ret
        exact ⟨ret_b (by first | exact HE.out.symm | (rw [HE.out]; simp; omega)), (((Below.refl w.heap.size w).alloc (Nat.le_refl _) _).alloc (by simp) _).alloc (by simp; omega) _⟩
    · have HE := Lib.hid (ah_no_sw (a := a) (b := b) (p := p) hs fun h => h1 h.1)
      go_enter Try.func45, Try.ntmps45
      go_wp2
      go_ret
      exact ⟨ret_b (by first | exact HE.out.symm | (rw [HE.out]; simp; omega)), (((Below.refl w.heap.size w).alloc (Nat.le_refl _) _).alloc (by simp) _).alloc (by simp; omega) _⟩
  · by_cases h1 : a.y ≤ p.y
    · by_cases h2 : p.y < b.y
      · have HE := Lib.hid (ah_yes (a := a) (b := b) (p := p) hs h1 h2)
        have k := fun W => turn_any a b p W
        obtain ⟨t, ht⟩ : ∃ t, t = turnI a b p := ⟨_, rfl⟩
        rw [← ht] at k HE
        have K := Lib.hid k
        clear k ht
        go_enter Try.func45, Try.ntmps45
        go_wp2_with fail
        (with_reducible refine (K.out _).mono ?_); rintro _ w1 ⟨rfl, l1⟩
        have L1 := Lib.hid (((((Below.refl w.heap.size w).alloc (Nat.le_refl _) _).alloc (by simp) _).alloc (by simp; omega) _).trans (l1.mono (by simp; omega)))
        clear l1
        go_wp2
        go_ret
        exact ⟨ret_b HE.out.symm, L1.out⟩
      · have HE := Lib.hid (ah_no (a := a) (b := b) (p := p) hs fun h => h2 h.2.1)
        go_enter Try.func45, Try.ntmps45
        go_wp2
        go_ret
        exact ⟨ret_b (by first | exact HE.out.symm | (rw [HE.out]; simp; omega)), (((Below.refl w.heap.size w).alloc (Nat.le_refl _) _).alloc (by simp) _).alloc (by simp; omega) _⟩
    · have HE := Lib.hid (ah_no (a := a) (b := b) (p := p) hs fun h => h1 h.1)
      go_enter Try.func45, Try.ntmps45
      go_wp2
      go_ret
      exact ⟨ret_b (by first | exact HE.out.symm | (rw [HE.out]; simp; omega)), (((Below.refl w.heap.size w).alloc (Nat.le_refl _) _).alloc (by simp) _).alloc (by simp; omega) _⟩
end Go.Proofs.Ytehmdokcdnlcdaa
