/- The walk of FrameTurned. -/
import Derived.Test.YtmkpknjhbkbafaaFTurn
import Derived.Test.YtmkpknjhbkbafaaFRefRead
namespace Go.Proofs.Ytmkpknjhbkbafaa
open Go.RowKit

theorem place_of (x : Int) (s : Nat) (h1 : 0 < s) (h2 : s ≤ 1000000) : ∃ j : Nat, j < s ∧ wrap64 ((IntKind.u64.wrap x).tmod (s : Int)) = (j : Int) := by
  have h0 := wrap_u64_nonneg x
  rw [Int.tmod_eq_emod_of_nonneg h0]
  have h3 := Int.emod_nonneg (IntKind.u64.wrap x) (show (s : Int) ≠ 0 by omega)
  have h4 := Int.emod_lt_of_pos (IntKind.u64.wrap x) (show (0 : Int) < (s : Int) by omega)
  obtain ⟨j, hj⟩ := Int.eq_ofNat_of_zero_le h3
  refine ⟨j, by omega, ?_⟩
  rw [hj]
  exact IntWalk.wrap64_in _ ⟨by omega, by omega⟩

set_option maxHeartbeats 1000000 in
theorem frameTurned_walk (size mark at_ : Int) (A : Option Addr) (n c : Nat) (F : Nat → Nat) (v : Nat) (w : World) (hv : v < 256) (hb : Bytes w A n F) :
    Calls Try.prog 8 #[.agg #[.int .i64 size, .int .i64 mark, .slice A n c, .int .i64 at_], .int .u8 v] w fun e w' => e = .returned (.bool true) ∧ Below w.heap.size w w' := by
  have hn := hb.1
  have l0 := (Below.refl w.heap.size w).alloc (Nat.le_refl _) (.cells #[.int .i64 size, .int .i64 mark, .slice A n c, .int .i64 at_] 46)
  have hb0 := hb.below l0 (Nat.le_refl _)
  by_cases hlen : 5000 < n
  · go_enter Try.func8, Try.ntmps8
    go_wp2
    go_ret
    exact ⟨rfl, l0⟩
  · by_cases herr : bErr size mark n = 0
    · have hs : ¬ (size < 64 ∨ 4096 < size) := fun h => by rw [bErr_1 h] at herr; cases herr
      have hk : ¬ (mark < 1 ∨ 4611686018427387904 < mark) := fun h => by rw [bErr_2 hs h] at herr; cases herr
      have hl : ¬ size - 36 < n := fun h => by rw [bErr_3 hs hk h] at herr; cases herr
      clear herr
      obtain ⟨s, rfl⟩ := Int.eq_ofNat_of_zero_le (show 0 ≤ size by omega)
      obtain ⟨k, rfl⟩ := Int.eq_ofNat_of_zero_le (show 0 ≤ mark by omega)
      obtain ⟨m, hm1, hm2⟩ : ∃ m, m + 20 ≤ s ∧ s ≤ m + 20 := ⟨s - 20, by omega, by omega⟩
      have h44 : 44 ≤ m := by omega
      have hm : m ≤ 4076 := by omega
      have hk1 : 1 ≤ k := by omega
      have hk2 : k ≤ 4611686018427387904 := by omega
      have hn16 : 16 + n ≤ m := by omega
      clear hs hk hl
      have L0 := Lib.hid l0
      have HB0 := Lib.hid hb0
      clear l0 hb0
      go_enter Try.func8, Try.ntmps8
      go_wp2_with fail
      refine (build_ok s m k n c A F _ hm1 hm2 h44 hm hk1 hk2 hn16 HB0.out).mono ?_
      rintro e W1 ⟨rfl, b1, l1⟩
      rw [World.size_alloc] at b1 ⊢
      have l2 : Below w.heap.size w W1 := L0.out.trans (l1.mono (by rw [World.size_alloc]; omega))
      have hc3 : W1.cell? ⟨w.heap.size, 3, none⟩ = some (.int .i64 at_) := by
        rw [l1.cell (p := ⟨w.heap.size, 3, none⟩) (by simp)]
        simp
      clear l1
      obtain ⟨j, hj, hje⟩ := place_of at_ s (by omega) (by omega)
      have hok := sec_ok h44 hk1 hk2 fun i hi => b1.2.1 i (by omega)
      have hcj := b1.cell hj
      have hfj := b1.frozen j
      have OK := Lib.hid hok
      have B1 := Lib.hid b1
      clear b1 hok
      obtain ⟨x, hx⟩ : ∃ x, x = secF m k n F j := ⟨_, rfl⟩
      rw [← hx] at hcj
      have HX := Lib.hid hx
      clear hx
      by_cases heq : x = v
      · subst heq
        have q1 : ((x : Int) == (x : Int)) = true := by simp
        go_wp2_with fail
        refine (awake_any W1).mono ?_
        rintro e W4 ⟨rfl, l5⟩
        have l6 : Below w.heap.size w W4 := l2.trans (l5.mono l2.size)
        clear l2 l5
        go_wp2
        go_ret
        exact ⟨rfl, l6⟩
      · have q1 : ((x : Int) == (v : Int)) = false := by simp; omega
        have HE := Lib.hid heq
        clear heq
        have b2 := B1.out.set_ j v hv
        have l3 := l2.setCell (p := ⟨w.heap.size + 1, j, none⟩) (by simp) (.int .u8 (v : Int))
        have B2 := Lib.hid b2
        have L3 := Lib.hid l3
        clear b2 l3
        go_wp2_with fail
        have bb := (B2.out.bytes (o := 0) (m := s) (by omega)).congr (G := fun i => if i = j then v else secF m k n F i) fun i _ => by rw [Nat.zero_add]
        refine (read_no (w.heap.size + 1) 0 s m s _ _ hm1 hm2 h44 hm (Nat.le_refl _) (by omega) bb (turned (k := j) h44 (fun i hi => B1.out.2.1 i (by omega)) (fun i hi => B2.out.2.1 i (by omega)) (fun i _ hi => (if_neg hi).symm) (by omega) ?_ OK.out)).mono ?_
        · rw [if_pos rfl, ← HX.out]
          exact HE.out
        · rintro e W3 ⟨rfl, l4⟩
          have l5 : Below w.heap.size w W3 := L3.out.trans (l4.mono (by have := l2.size; simp; omega))
          clear l4 bb
          go_wp2_with fail
          refine (awake_any W3).mono ?_
          rintro e W4 ⟨rfl, l6⟩
          have l7 : Below w.heap.size w W4 := l5.trans (l6.mono l5.size)
          clear l5 l6
          go_wp2
          go_ret
          exact ⟨rfl, l7⟩
    · have hl0 : bLen size mark n = 0 := by unfold bLen; rw [if_neg herr]
      have q1 : (bErr size mark n != 0) = true := by rw [bne_iff_ne]; exact herr
      have HL := Lib.hid hl0
      have L0 := Lib.hid l0
      have HB0 := Lib.hid hb0
      clear herr hl0 l0 hb0
      go_enter Try.func8, Try.ntmps8
      go_wp2_with fail
      refine (build_all size mark n _ _ F _ HB0.out).mono ?_
      rintro e W1 ⟨B, d, rfl, b1, l1⟩
      rw [HL.out]
      have l2 : Below w.heap.size w W1 := L0.out.trans (l1.mono (by rw [World.size_alloc]; omega))
      clear b1 l1
      go_wp2_with fail
      refine (awake_any W1).mono ?_
      rintro e W4 ⟨rfl, l5⟩
      have l6 : Below w.heap.size w W4 := l2.trans (l5.mono l2.size)
      clear l2 l5
      go_wp2
      go_ret
      exact ⟨rfl, l6⟩
end Go.Proofs.Ytmkpknjhbkbafaa
