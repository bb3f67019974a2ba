/- wide's Sign and Compare. -/
import Derived.Test.YtehmdokcdnlcdaaWLeaf
import Derived.BigRegion
import Derived.BigQuiet
import Derived.Deep.QuietTactic
import Derived.Deep.RegionHeld3
import Derived.Deep.RegionHeldLaw
namespace Go.Proofs.Ytehmdokcdnlcdaa
open Go.RowKit
set_option linter.unusedVariables false

theorem ret_i {a b : Int} (h : a = b) : Ending.returned (.int .i64 a) = .returned (.int .i64 b) := by rw [h]
theorem cmp_i64 (a b : Int) (w : World) : Calls Try.prog 56 #[.int .i64 a, .int .i64 b] w fun e w' => e = .returned (.int .i64 (cmpI a b)) ∧ w = w' := by
  have q1 : (a != a) = false := by simp
  have q2 : (b != b) = false := by simp
  rcases Int.lt_trichotomy a b with h | h | h
  · have HE := Lib.hid (cmpI_lt h)
    go_enter Try.func56, Try.ntmps56
    go_wp2
    go_ret
    exact ⟨ret_i (by rw [HE.out]), rfl⟩
  · have HE := Lib.hid (cmpI_eq h)
    have h1 : ¬ a < b := by omega
    have h2 : ¬ b < a := by omega
    clear h
    go_enter Try.func56, Try.ntmps56
    go_wp2
    go_ret
    exact ⟨ret_i (by rw [HE.out]), rfl⟩
  · have HE := Lib.hid (cmpI_gt h)
    have h1 : ¬ a < b := by omega
    go_enter Try.func56, Try.ntmps56
    go_wp2
    go_ret
    exact ⟨ret_i (by rw [HE.out]), rfl⟩
theorem cmp_u64 (a b : Int) (w : World) : Calls Try.prog 57 #[.int .u64 a, .int .u64 b] w fun e w' => e = .returned (.int .i64 (cmpI a b)) ∧ w = w' := by
  have q1 : (a != a) = false := by simp
  have q2 : (b != b) = false := by simp
  rcases Int.lt_trichotomy a b with h | h | h
  · have HE := Lib.hid (cmpI_lt h)
    go_enter Try.func57, Try.ntmps57
    go_wp2
    go_ret
    exact ⟨ret_i (by rw [HE.out]), rfl⟩
  · have HE := Lib.hid (cmpI_eq h)
    have h1 : ¬ a < b := by omega
    have h2 : ¬ b < a := by omega
    clear h
    go_enter Try.func57, Try.ntmps57
    go_wp2
    go_ret
    exact ⟨ret_i (by rw [HE.out]), rfl⟩
  · have HE := Lib.hid (cmpI_gt h)
    have h1 : ¬ a < b := by omega
    go_enter Try.func57, Try.ntmps57
    go_wp2
    go_ret
    exact ⟨ret_i (by rw [HE.out]), rfl⟩
theorem sign_i64 (a : Int) (w : World) : Calls Try.prog 52 #[.int .i64 a] w fun e w' => e = .returned (.int .i64 (sgnI a)) ∧ w = w' := by
  have K := fun W => cmp_i64 a 0 W
  rw [show cmpI a 0 = sgnI a by unfold cmpI; rw [Int.sub_zero]] at K
  go_enter Try.func52, Try.ntmps52
  go_wp2_with (go_at_call 56; refine (K _).mono ?_; rintro e w' ⟨rfl, rfl⟩)
  go_ret
  exact ⟨rfl, rfl⟩
theorem sign_u64 (a : Int) (w : World) : Calls Try.prog 53 #[.int .u64 a] w fun e w' => e = .returned (.int .i64 (sgnI a)) ∧ w = w' := by
  have K := fun W => cmp_u64 a 0 W
  rw [show cmpI a 0 = sgnI a by unfold cmpI; rw [Int.sub_zero]] at K
  go_enter Try.func53, Try.ntmps53
  go_wp2_with (go_at_call 57; refine (K _).mono ?_; rintro e w' ⟨rfl, rfl⟩)
  go_ret
  exact ⟨rfl, rfl⟩
theorem or_any (g c : Nat) (a b : Int) (w : World) (h0 : w.cell? ⟨g, 0, none⟩ = some (.int .i64 a)) (h1 : w.cell? ⟨g, 1, none⟩ = some (.int .i64 b)) :
    Calls Try.prog 51 #[.slice (some ⟨g, 0, none⟩) 2 c] w fun e w' => e = .returned (.int .i64 (orI a b)) ∧ w = w' := by
  by_cases ha : a = 0
  · have e : orI a b = b := by unfold orI; rw [if_neg (by simpa using ha)]
    rw [e]
    clear e
    have hat : (a != 0) = false := by simp [ha]
    subst ha
    by_cases hb : b = 0
    · subst hb
      go_enter Try.func51, Try.ntmps51
      go_wp2
      refine wp_loop_rounds 3 ?_
      rw [rounds_succ]
      go_wp2
      rw [rounds_succ]
      go_wp2
      rw [rounds_succ]
      go_wp2
      go_ret
      exact ⟨rfl, rfl⟩
    · have hbt : (b != 0) = true := by simp [hb]
      go_enter Try.func51, Try.ntmps51
      go_wp2
      refine wp_loop_rounds 2 ?_
      rw [rounds_succ]
      go_wp2
      rw [rounds_succ]
      go_wp2
      go_ret
      exact ⟨rfl, rfl⟩
  · have e : orI a b = a := by unfold orI; rw [if_pos ha]
    rw [e]
    clear e
    have hat : (a != 0) = true := by simp [ha]
    go_enter Try.func51, Try.ntmps51
    go_wp2
    refine wp_loop_rounds 1 ?_
    rw [rounds_succ]
    go_wp2
    go_ret
    exact ⟨rfl, rfl⟩
set_option maxRecDepth 100000 in
set_option maxHeartbeats 1000000 in
theorem sign_any (x : Int) (w : World) : Calls Try.prog 43 #[.agg #[.int .i64 (hiW x), .int .u64 (loW x)]] w fun e w' => e = .returned (.int .i64 (sgnI (svW x))) ∧ Below w.heap.size w w' := by
  have E := Lib.hid (sgn_or x)
  go_enter Try.func43, Try.ntmps43
  go_wp2
  go_region_held3 (fun W => W.cell? ⟨w.heap.size, 0, none⟩ = some (.int .i64 (hiW x)) ∧ W.cell? ⟨w.heap.size, 1, none⟩ = some (.int .u64 (loW x))) (go_keep) (first
    | (go_at_call 52; refine (sign_i64 _ _).mono ?_; rintro e w' ⟨rfl, rfl⟩)
    | (go_at_call 53; refine (sign_u64 _ _).mono ?_; rintro e w' ⟨rfl, rfl⟩)
    | (go_at_call 51; refine (or_any (w.heap.size + 1) 2 (sgnI (hiW x)) (sgnI (loW x)) _ ?h0 ?h1).mono ?_; (case h0 => go_simp); (case h1 => go_simp); rintro e w' ⟨rfl, rfl⟩))
  go_wp2
  go_ret
  exact ⟨ret_i E.out, (((Below.refl _ _).alloc (Nat.le_refl _) _).alloc (by simp) _).drew⟩
end Go.Proofs.Ytehmdokcdnlcdaa
