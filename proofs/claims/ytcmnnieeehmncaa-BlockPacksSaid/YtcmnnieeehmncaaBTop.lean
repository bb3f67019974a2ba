/- block.Top: every row of postings. -/
import Derived.Test.YtcmnnieeehmncaaBAwake
import Derived.Deep.QuietTactic
import Derived.BigQuiet
import Derived.RegionTactic
import Derived.ChangeAlike
namespace Go.Proofs.Ytcmnnieeehmncaa
open Go.RowKit Go.Maps
set_option linter.unusedVariables false
set_option linter.unusedSimpArgs false

def topN (P : Nat → Pst) : Nat → Nat
  | 0 => 0
  | k + 1 => max (topN P k) (P k).n
def lowL (P : Nat → Pst) : Nat → Int
  | 0 => 1048576
  | k + 1 => min (lowL P k) (P k).len
theorem top_le (P : Nat → Pst) : ∀ k i, i < k → (P i).n ≤ topN P k := by
  intro k
  induction k with
  | zero => intro i hi; omega
  | succ k ih =>
    intro i hi
    rw [topN]
    by_cases e : i = k
    · subst e; omega
    · have := ih i (by omega); omega
theorem top_is (P : Nat → Pst) : ∀ k, 0 < k → ∃ i, i < k ∧ (P i).n = topN P k := by
  intro k
  induction k with
  | zero => intro h; omega
  | succ k ih =>
    intro _
    rw [topN]
    by_cases h : topN P k ≤ (P k).n
    · exact ⟨k, by omega, by omega⟩
    · have hk : 0 < k := by
        rcases Nat.eq_zero_or_pos k with h0 | h0
        · subst h0; simp [topN] at h
        · exact h0
      obtain ⟨i, hi, e⟩ := ih hk
      exact ⟨i, by omega, by omega⟩
theorem low_ge (P : Nat → Pst) : ∀ k i, i < k → lowL P k ≤ (P i).len := by
  intro k
  induction k with
  | zero => intro i hi; omega
  | succ k ih =>
    intro i hi
    rw [lowL]
    by_cases e : i = k
    · subst e; omega
    · have := ih i (by omega); omega
theorem low_is (P : Nat → Pst) : ∀ k, 0 < k → (∀ i, i < k → (P i).len ≤ 1048576) → ∃ i, i < k ∧ (P i).len = lowL P k := by
  intro k
  induction k with
  | zero => intro h; omega
  | succ k ih =>
    intro _ hb
    rw [lowL]
    by_cases h : (P k).len ≤ lowL P k
    · exact ⟨k, by omega, by omega⟩
    · have hk : 0 < k := by
        rcases Nat.eq_zero_or_pos k with h0 | h0
        · subst h0; have := hb 0 (by omega); simp [lowL] at h; omega
        · exact h0
      obtain ⟨i, hi, e⟩ := ih hk (fun i hi => hb i (by omega))
      exact ⟨i, by omega, by omega⟩
set_option maxHeartbeats 8000000 in
theorem top_no {A : Option Addr} {n c : Nat} {P : Nat → Pst} (w : World) (hI : Psts w A n P) (h : n = 0 ∨ rightB n P = false) : Calls Try.prog 13 #[.slice A n c] w fun e w' => e = .returned (.tuple #[.int .i64 0, .int .i64 0]) ∧ Below w.heap.size w w' := by
  by_cases h0 : n = 0
  · subst h0
    clear h hI
    go_enter Try.func13, Try.ntmps13
    go_wp2
    go_ret2
    exact ⟨rfl, Below.refl _ _⟩
  · have hr : rightB n P = false := by rcases h with h | h; exact absurd h h0; exact h
    have HR := Lib.hid (right_is (c := c) hr w hI)
    have k0 : ((n : Int) == 0) = false := by simpa using h0
    have k1 : (n == 0) = false := by simpa using h0
    clear h hI hr
    go_enter Try.func13, Try.ntmps13
    go_wp2_with (go_at_call 14; (with_reducible refine HR.out.mono ?_); rintro e w1 ⟨rfl, l1⟩; have L1 := Lib.hid l1; clear l1)
    go_ret2
    exact ⟨rfl, L1.out⟩
set_option maxHeartbeats 8000000 in
theorem top_yes {A : Option Addr} {n c : Nat} {P : Nat → Pst} (w : World) (hI : Psts w A n P) (h0 : n ≠ 0) (hr : rightB n P = true) : Calls Try.prog 13 #[.slice A n c] w fun e w' => e = .returned (.tuple #[.int .i64 (topN P n : Nat), .int .i64 (lowL P n)]) ∧ Below w.heap.size w w' := by
  have HR := Lib.hid (right_is (c := c) hr w hI)
  have hn := hI.1
  have HI := Lib.hid hI
  have k0 : ((n : Int) == 0) = false := by simpa using h0
  have k1 : (n == 0) = false := by simpa using h0
  clear hI hr
  go_enter Try.func13, Try.ntmps13
  go_wp2_with (go_at_call 14; (with_reducible refine HR.out.mono ?_); rintro e w1 ⟨rfl, l1⟩; have L1 := Lib.hid l1; clear l1)
  go_loopw [2, 3, 16] (fun t l i wr => ∃ k : Nat, k ≤ n ∧ i = .int .i64 k ∧ t = .int .i64 (topN P k : Nat) ∧ l = .int .i64 (lowL P k) ∧ Below w.heap.size w wr) (fun _ _ i _ => n - (intOf i).toNat)
  case atStart => exact ⟨0, by omega, rfl, rfl, rfl, L1.out⟩
  case round =>
    obtain ⟨k, hk, rfl, rfl, rfl, hnx⟩ := hrel
    have HX := Lib.hid hnx
    by_cases hlt : k < n
    · obtain ⟨b, o, hA, hbl, hc⟩ := HI.out.at_ (by omega)
      subst hA
      have hk3 := hc k hlt
      have q0 := kcell hnx hbl hk3.c0
      have q1 := kcell hnx hbl hk3.c1
      have q2 := kcell hnx hbl hk3.c2
      have HT := Lib.hid (show topN P (k + 1) = max (topN P k) (P k).n from rfl)
      have HL := Lib.hid (show lowL P (k + 1) = min (lowL P k) (P k).len from rfl)
      clear hc hk3 hnx
      generalize P k = p at *
      obtain ⟨pr, pl, pA, pn, pc, pF⟩ := p
      dsimp only at *
      generalize topN P k = tn at *
      generalize lowL P k = ll at *
      go_wp2_with fail
      go_quiet (fail)
      go_wp2_with fail
      exact ⟨⟨k + 1, by omega, by go_num, by rw [HT.out]; go_num, by rw [HL.out], (HX.out.alloc HX.out.size _).trans (below_drewN _ _ _)⟩, by simp [intOf]; omega⟩
    · obtain rfl : n = k := by omega
      go_wp2
      go_ret2
      exact ⟨rfl, HX.out⟩
end Go.Proofs.Ytcmnnieeehmncaa
