/- num's held and Plus: they call nothing of the library. -/
import Derived.Test.YtpmhefdalhohdaaDoorProg
import Derived.WalkKit
import Derived.Lib.Hide
import Derived.PlainAid
import Derived.IntWalk
import Derived.WalkSpells
import Derived.WalkLawsBesides
namespace Go.Proofs.YtpmhefdalhohdaaDoor
open Go.RowKit
set_option linter.unusedVariables false

/-- Is a number within the ends? -/
def heldB (n : Int) : Bool := decide (-9000000000000000000 ≤ n ∧ n ≤ 9000000000000000000)
theorem heldB_yes {n : Int} (h : heldB n = true) : -9000000000000000000 ≤ n ∧ n ≤ 9000000000000000000 := by unfold heldB at h; exact of_decide_eq_true h
theorem heldB_no {n : Int} (h : heldB n = false) : n < -9000000000000000000 ∨ 9000000000000000000 < n := by
  unfold heldB at h
  have := of_decide_eq_false h
  omega
theorem heldB_mk {n : Int} (h : -9000000000000000000 ≤ n ∧ n ≤ 9000000000000000000) : heldB n = true := by unfold heldB; exact decide_eq_true h
theorem heldB_not {n : Int} (h : n < -9000000000000000000 ∨ 9000000000000000000 < n) : heldB n = false := by unfold heldB; exact decide_eq_false (by omega)

theorem held_any (n : Int) (w : World) : Calls Tryd.prog 73 #[.int .i64 n] w fun e w' => e = .returned (.bool (heldB n)) ∧ w = w' := by
  by_cases h1 : -9000000000000000000 ≤ n
  · by_cases h2 : n ≤ 9000000000000000000
    · rw [heldB_mk ⟨h1, h2⟩]
      go_enter Tryd.func73, Tryd.ntmps73
      go_wp2
      go_ret
      exact ⟨rfl, rfl⟩
    · rw [heldB_not (.inr (by omega))]
      go_enter Tryd.func73, Tryd.ntmps73
      go_wp2
      go_ret
      exact ⟨rfl, rfl⟩
  · rw [heldB_not (.inl (by omega))]
    go_enter Tryd.func73, Tryd.ntmps73
    go_wp2
    go_ret
    exact ⟨rfl, rfl⟩

/-- A sum. -/
def plusE (a b : Int) : Int := if heldB a = true ∧ heldB b = true then (if heldB (a + b) = true then 0 else 12) else 2
def plusV (a b : Int) : Int := if plusE a b = 0 then a + b else 0
theorem plus_any (a b : Int) (w : World) (ha : -9223372036854775808 ≤ a ∧ a ≤ 9223372036854775807) (hb : -9223372036854775808 ≤ b ∧ b ≤ 9223372036854775807) :
    Calls Tryd.prog 60 #[.int .i64 a, .int .i64 b] w fun e w' => e = .returned (.tuple #[.int .i64 (plusV a b), .int .i64 (plusE a b)]) ∧ w = w' := by
  cases h1 : heldB a
  · have e1 : plusE a b = 2 := if_neg (by rw [h1]; simp)
    have e2 : plusV a b = 0 := by unfold plusV; rw [e1]; rfl
    rw [e1, e2]
    clear e1 e2
    go_enter Tryd.func60, Tryd.ntmps60
    go_wp2_with (go_at_call 73; refine (held_any _ _).mono ?_; rintro e w' ⟨rfl, rfl⟩)
    go_ret2
    exact ⟨rfl, rfl⟩
  · cases h2 : heldB b
    · have e1 : plusE a b = 2 := if_neg (by rw [h2]; simp)
      have e2 : plusV a b = 0 := by unfold plusV; rw [e1]; rfl
      rw [e1, e2]
      clear e1 e2
      go_enter Tryd.func60, Tryd.ntmps60
      go_wp2_with (go_at_call 73; refine (held_any _ _).mono ?_; rintro e w' ⟨rfl, rfl⟩)
      go_ret2
      exact ⟨rfl, rfl⟩
    · obtain ⟨a1, a2⟩ := heldB_yes h1
      obtain ⟨b1, b2⟩ := heldB_yes h2
      cases h3 : heldB (a + b)
      · have e1 : plusE a b = 12 := by unfold plusE; rw [if_pos ⟨h1, h2⟩, h3]; rfl
        have e2 : plusV a b = 0 := by unfold plusV; rw [e1]; rfl
        rw [e1, e2]
        have h4 := heldB_no h3
        clear e1 e2 h3 ha hb
        rcases h4 with h4 | h4
        · have b3 : b < 0 := by omega
          have b4 : ¬ 0 < b := by omega
          have c1 : a < -9000000000000000000 - b := by omega
          clear h4
          go_enter Tryd.func60, Tryd.ntmps60
          go_wp2_with (go_at_call 73; refine (held_any _ _).mono ?_; rintro e w' ⟨rfl, rfl⟩)
          go_ret2
          exact ⟨rfl, rfl⟩
        · have b3 : 0 < b := by omega
          have c1 : 9000000000000000000 - b < a := by omega
          clear h4
          go_enter Tryd.func60, Tryd.ntmps60
          go_wp2_with (go_at_call 73; refine (held_any _ _).mono ?_; rintro e w' ⟨rfl, rfl⟩)
          go_ret2
          exact ⟨rfl, rfl⟩
      · have e1 : plusE a b = 0 := by unfold plusE; rw [if_pos ⟨h1, h2⟩, h3]; rfl
        have e2 : plusV a b = a + b := by unfold plusV; rw [e1]; rfl
        rw [e1, e2]
        obtain ⟨c1, c2⟩ := heldB_yes h3
        clear e1 e2 h3 ha hb
        by_cases b3 : 0 < b
        · have d1 : ¬ 9000000000000000000 - b < a := by omega
          have d2 : ¬ b < 0 := by omega
          go_enter Tryd.func60, Tryd.ntmps60
          go_wp2_with (go_at_call 73; refine (held_any _ _).mono ?_; rintro e w' ⟨rfl, rfl⟩)
          go_ret2
          exact ⟨rfl, rfl⟩
        · by_cases b4 : b < 0
          · have d1 : ¬ a < -9000000000000000000 - b := by omega
            go_enter Tryd.func60, Tryd.ntmps60
            go_wp2_with (go_at_call 73; refine (held_any _ _).mono ?_; rintro e w' ⟨rfl, rfl⟩)
            go_ret2
            exact ⟨rfl, rfl⟩
          · go_enter Tryd.func60, Tryd.ntmps60
            go_wp2_with (go_at_call 73; refine (held_any _ _).mono ?_; rintro e w' ⟨rfl, rfl⟩)
            go_ret2
            exact ⟨rfl, rfl⟩
end Go.Proofs.YtpmhefdalhohdaaDoor
