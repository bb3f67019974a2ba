/- block.may: for every posting. -/
import Derived.Test.YthpfaaindkkpcaaBMem
namespace Go.Proofs.Ythpfaaindkkpcaa
open Go.RowKit
set_option linter.unusedVariables false
set_option linter.unusedSimpArgs false

theorem headNo {row len : Int} {n : Nat} {F : Nat → Int} (h : ¬ (0 ≤ row ∧ row ≤ 9007199254740992 ∧ 1 ≤ len ∧ len ≤ 1048576)) : mayB row len n F = false :=
  decide_eq_false fun k => h ⟨k.1, k.2.1, k.2.2.1, k.2.2.2.1⟩
set_option maxHeartbeats 4000000 in
theorem may_any (row len : Int) (A : Option Addr) (n c : Nat) (F : Nat → Int) (w : World) (hI : Ints w A n F) : Calls Try.prog 27 #[.agg #[.int .i64 row, .int .i64 len, .slice A n c]] w fun e w' => e = .returned (.bool (mayB row len n F)) ∧ Below w.heap.size w w' := by
  have hn := hI.1
  by_cases hh : 0 ≤ row ∧ row ≤ 9007199254740992 ∧ 1 ≤ len ∧ len ≤ 1048576
  · obtain ⟨r0, r1, l0, l1⟩ := hh
    go_enter Try.func27, Try.ntmps27
    go_wp2
    have hB : Below w.heap.size w (w.alloc (.cells #[.int .i64 row, .int .i64 len, .slice A n c] 48)) := (Below.refl _ _).alloc (Nat.le_refl _) _
    have c1 : (w.alloc (.cells #[.int .i64 row, .int .i64 len, .slice A n c] 48)).cell? ⟨w.heap.size, 1, none⟩ = some (.int .i64 len) := by go_simp
    have c2 : (w.alloc (.cells #[.int .i64 row, .int .i64 len, .slice A n c] 48)).cell? ⟨w.heap.size, 2, none⟩ = some (.slice A n c) := by go_simp
    have HI := Lib.hid (hI.below hB (Nat.le_refl _))
    have HB := Lib.hid hB
    clear hB hI
    generalize w.alloc (.cells #[.int .i64 row, .int .i64 len, .slice A n c] 48) = w1 at *
    go_loop [3, 27] (fun a i => ∃ k : Nat, k ≤ n ∧ a = .int .i64 (aheadF F k) ∧ i = .int .i64 k ∧ GoodTo len F k) (fun _ i => n - (intOf i).toNat)
    case atStart => exact ⟨0, by omega, rfl, rfl, good_zero _ _⟩
    case round =>
      obtain ⟨k, hk, rfl, rfl, hg⟩ := hrel
      have HG := Lib.hid hg
      clear hg
      by_cases hlt : k < n
      · obtain ⟨b, o, hA, hbl, hc⟩ := HI.out.at_ (by omega)
        subst hA
        have hck := hc k hlt
        have hsn := aheadF_succ F k
        clear hc
        have HN : Hid (¬ (aheadF F k < F k ∧ F k < len) → mayB row len n F = false) := Lib.hid fun q => decide_eq_false fun z => q (z.2.2.2.2.2 k hlt)
        have HS : Hid (aheadF F k < F k → F k < len → GoodTo len F (k + 1)) := Lib.hid fun q1 q2 => good_succ HG.out q1 q2
        rw [← hsn] at hck HN HS
        have HSn := Lib.hid hsn
        clear hsn
        generalize aheadF F k = ah at *
        generalize aheadF F (k + 1) = f at *
        by_cases h1 : ah < f
        · by_cases h2 : f < len
          · go_wp2
            go_round
            case rel => exact ⟨k + 1, by omega, by rw [HSn.out]; first | rfl | (rw [HSn.out]), by go_num, HS.out h1 h2⟩
            case measure => simp [intOf]; omega
          · have k2 : decide (len ≤ f) = true := decide_eq_true (by omega)
            have HE := Lib.hid (HN.out (fun z => h2 z.2))
            go_wp2
            go_ret
            exact ⟨ret_b HE.out.symm, HB.out⟩
        · have k1 : decide (f ≤ ah) = true := decide_eq_true (by omega)
          have HE := Lib.hid (HN.out (fun z => h1 z.1))
          clear h1
          go_wp2
          go_ret
          exact ⟨ret_b HE.out.symm, HB.out⟩
      · have HE : Hid (mayB row len n F = decide (0 < n)) := Lib.hid (by
          unfold mayB MayP
          apply decide_eq_decide.2
          have e : n = k := by omega
          rw [e]
          constructor
          · intro z; have := z.2.2.2.2.1; omega
          · intro z; exact ⟨r0, r1, l0, l1, by omega, HG.out⟩)
        go_wp2
        go_ret
        exact ⟨ret_b (by rw [HE.out]), HB.out⟩
  · have HN := Lib.hid (headNo (n := n) (F := F) hh)
    go_enter Try.func27, Try.ntmps27
    have HB := Lib.hid ((Below.refl w.heap.size w).alloc (Nat.le_refl _) (.cells #[.int .i64 row, .int .i64 len, .slice A n c] 48))
    clear hI
    go_wp2
    all_goals first
      | (go_ret; exact ⟨ret_b HN.out.symm, HB.out⟩)
      | (exfalso; omega)
end Go.Proofs.Ythpfaaindkkpcaa
