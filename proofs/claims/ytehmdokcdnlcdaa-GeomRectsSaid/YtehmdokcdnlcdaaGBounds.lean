/- geom's Bounds: the walk. -/
import Derived.Test.YtehmdokcdnlcdaaGOver
import Derived.Deep.OwnRows
namespace Go.Proofs.Ytehmdokcdnlcdaa
open Go.RowKit
set_option linter.unusedVariables false


def rF (j : Rc) : Nat → Int | 0 => j.x0 | 1 => j.y0 | 2 => j.x1 | _ => j.y1
/-- A rect of the call's own in memory. -/
def RcAt (W : World) (q : Nat) (j : Rc) : Prop := W.rowIs q 36 4 (fun i => .int .i64 (rF j i))
theorem RcAt.cells {W : World} {q : Nat} {j : Rc} (h : RcAt W q j) : W.cell? ⟨q, 0, none⟩ = some (.int .i64 j.x0) ∧ W.cell? ⟨q, 1, none⟩ = some (.int .i64 j.y0) ∧ W.cell? ⟨q, 2, none⟩ = some (.int .i64 j.x1) ∧ W.cell? ⟨q, 3, none⟩ = some (.int .i64 j.y1) :=
  ⟨World.rowIs.cell h (i := 0) (by omega), World.rowIs.cell h (i := 1) (by omega), World.rowIs.cell h (i := 2) (by omega), World.rowIs.cell h (i := 3) (by omega)⟩
theorem RcAt.free {W : World} {q : Nat} {j : Rc} (h : RcAt W q j) : W.frozen? ⟨q, 0, none⟩ = false ∧ W.frozen? ⟨q, 1, none⟩ = false ∧ W.frozen? ⟨q, 2, none⟩ = false ∧ W.frozen? ⟨q, 3, none⟩ = false :=
  ⟨World.rowIs.frozen h 0, World.rowIs.frozen h 1, World.rowIs.frozen h 2, World.rowIs.frozen h 3⟩
theorem RcAt.lt {W : World} {q : Nat} {j : Rc} (h : RcAt W q j) : q < W.heap.size := World.rowIs.lt h
theorem RcAt.keep {W W' : World} {q B : Nat} {j : Rc} (h : RcAt W q j) (l : Below B W W') (hq : q < B) : RcAt W' q j := World.rowIs.of_block h (l.block q hq)
theorem RcAt.new (W : World) (j : Rc) : RcAt (W.alloc (.cells #[.int .i64 j.x0, .int .i64 j.y0, .int .i64 j.x1, .int .i64 j.y1] 36)) W.heap.size j := by
  have h := World.rowIs_alloc W #[.int .i64 j.x0, .int .i64 j.y0, .int .i64 j.x1, .int .i64 j.y1] 36 (fun i => .int .i64 (rF j i)) (fun i hi => by
    rcases i with _ | _ | _ | _ | i <;> first | rfl | (exfalso; have h4 : i + 1 + 1 + 1 + 1 < 4 := hi; omega))
  exact h
theorem RcAt.four {W : World} {q : Nat} {j : Rc} (h : RcAt W q j) (k : Rc) : RcAt ((((W.setCell ⟨q, 0, none⟩ (.int .i64 k.x0)).setCell ⟨q, 1, none⟩ (.int .i64 k.y0)).setCell ⟨q, 2, none⟩ (.int .i64 k.x1)).setCell ⟨q, 3, none⟩ (.int .i64 k.y1)) q k :=
  (World.rowIs.set (World.rowIs.set (World.rowIs.set (World.rowIs.set h 0 (.int .i64 k.x0)) 1 (.int .i64 k.y0)) 2 (.int .i64 k.x1)) 3 (.int .i64 k.y1)).congr fun i hi => by
    rcases i with _ | _ | _ | _ | i <;> first | rfl | omega
theorem below_four {w W : World} {q B : Nat} (h : Below B w W) (hq : B ≤ q) (k : Rc) : Below B w ((((W.setCell ⟨q, 0, none⟩ (.int .i64 k.x0)).setCell ⟨q, 1, none⟩ (.int .i64 k.y0)).setCell ⟨q, 2, none⟩ (.int .i64 k.x1)).setCell ⟨q, 3, none⟩ (.int .i64 k.y1)) :=
  (((h.setCell (p := ⟨q, 0, none⟩) hq _).setCell (p := ⟨q, 1, none⟩) hq _).setCell (p := ⟨q, 2, none⟩) hq _).setCell (p := ⟨q, 3, none⟩) hq _
theorem bounds_one (F : Nat → Pt) : boundsN F 1 = justR (F 0) := rfl
theorem bounds_next (F : Nat → Pt) (k : Nat) (hk : 0 < k) : boundsN F (k + 1) = joinR (boundsN F k) (justR (F k)) := by
  obtain ⟨m, rfl⟩ : ∃ m, k = m + 1 := ⟨k - 1, by omega⟩
  rfl
set_option maxRecDepth 100000 in
set_option maxHeartbeats 4000000 in
theorem bounds_no (A : Option Addr) (n c : Nat) (F : Nat → Pt) (w : World) (hP : Pts w A n F) (h : n = 0 ∨ allB F n = false) : Calls Try.prog 24 #[.slice A n c] w fun e w' => e = .returned (.tuple #[.agg #[.int .i64 0, .int .i64 0, .int .i64 0, .int .i64 0], .bool false]) ∧ Below w.heap.size w w' := by
  have hn := hP.1
  rcases Nat.eq_zero_or_pos n with h0 | h0
  · subst h0
    clear h
    go_enter Try.func24, Try.ntmps24
    go_wp2
    exact bodyPost_ret (v := .tuple #[.agg #[.int .i64 0, .int .i64 0, .int .i64 0, .int .i64 0], .bool false]) (by simp [results, Try.results24, go_sem]) rfl ⟨rfl, (Below.refl _ _).alloc (Nat.le_refl _) _⟩
  · have hf : allB F n = false := by rcases h with h | h; (omega); exact h
    have k := all_any A n c F (w.alloc (.cells #[.int .i64 0, .int .i64 0, .int .i64 0, .int .i64 0] 36)) (hP.keep ((Below.refl _ _).alloc (Nat.le_refl _) _))
    rw [hf] at k
    have K := Lib.hid k
    have hnz : ((n : Int) == 0) = false := by simp; omega
    clear k hf h hP
    go_enter Try.func24, Try.ntmps24
    go_wp2_with fail
    (with_reducible refine (K.out).mono ?_); rintro _ w1 ⟨rfl, l1⟩
    have L1 := Lib.hid (((Below.refl w.heap.size w).alloc (Nat.le_refl _) _).trans (l1.mono (by simp)))
    have hR := (RcAt.new w zeroR).keep l1 (by simp)
    obtain ⟨c0, c1, c2, c3⟩ := hR.cells
    obtain ⟨f0, f1, f2, f3⟩ := hR.free
    have HR := Lib.hid hR
    clear l1 hR
    go_wp2
    exact bodyPost_ret (v := .tuple #[.agg #[.int .i64 0, .int .i64 0, .int .i64 0, .int .i64 0], .bool false]) (by
      obtain ⟨d0, d1, d2, d3⟩ := (HR.out.four zeroR).cells
      unfold zeroR at d0 d1 d2 d3
      simp [results, Try.results24, go_sem, d0, d1, d2, d3]) rfl ⟨rfl, below_four L1.out (Nat.le_refl _) zeroR⟩

set_option maxRecDepth 100000 in
set_option maxHeartbeats 8000000 in
theorem bounds_yes (A : Option Addr) (n c : Nat) (F : Nat → Pt) (w : World) (hP : Pts w A n F) (hnc : n ≤ c) (hcm : c ≤ 9223372036854775807) (h0 : 0 < n) (ha : allB F n = true) : Calls Try.prog 24 #[.slice A n c] w fun e w' => e = .returned (.tuple #[.agg #[.int .i64 (boundsN F n).x0, .int .i64 (boundsN F n).y0, .int .i64 (boundsN F n).x1, .int .i64 (boundsN F n).y1], .bool true]) ∧ Below w.heap.size w w' := by
  have hn := hP.1
  have k := all_any A n c F (w.alloc (.cells #[.int .i64 0, .int .i64 0, .int .i64 0, .int .i64 0] 36)) (hP.keep ((Below.refl _ _).alloc (Nat.le_refl _) _))
  rw [ha] at k
  have K := Lib.hid k
  have hnz : ((n : Int) == 0) = false := by simp; omega
  have HP := Lib.hid hP
  obtain ⟨b, o, rfl, hcl⟩ := hP.2 h0
  obtain ⟨x0, x1⟩ := hcl 0 h0
  rw [Nat.zero_mul, Nat.add_zero] at x0 x1
  obtain ⟨p0, hp0⟩ : ∃ p, p = F 0 := ⟨_, rfl⟩
  rw [← hp0] at x0 x1
  have HC := Lib.hid hcl
  have hnI : (0 : Int) < n := by omega
  have hnI1 : (1 : Int) ≤ n := by omega
  have hcI1 : (1 : Int) ≤ c := by omega
  have hnc' : (n : Int) ≤ c := by omega
  have KJ0 := Lib.hid (fun W => just_any p0 W)
  obtain ⟨j0, hj0⟩ : ∃ j, j = justR p0 := ⟨_, rfl⟩
  rw [← hj0] at KJ0
  have HJ0 := Lib.hid (show j0 = boundsN F 1 by rw [bounds_one, hj0, hp0])
  clear k ha hP hcl hp0 hj0
  go_enter Try.func24, Try.ntmps24
  go_wp2_with fail
  (with_reducible refine (K.out).mono ?_); rintro _ w1 ⟨rfl, l1⟩
  have L1 := Lib.hid (((Below.refl w.heap.size w).alloc (Nat.le_refl _) _).trans (l1.mono (by simp)))
  have hR := (RcAt.new w zeroR).keep l1 (by simp)
  have HR1 := Lib.hid hR
  have y0 := kp' L1.out (cell_lt' x0) x0
  have y1 := kp' L1.out (cell_lt' x1) x1
  clear l1 hR
  go_wp2_with fail
  (with_reducible refine (KJ0.out _).mono ?_); rintro _ w2 ⟨rfl, l2⟩
  have L2 := Lib.hid (below2' L1.out l2)
  have HR2 := Lib.hid (HR1.out.keep l2 HR1.out.lt)
  clear l2
  obtain ⟨q, hq⟩ : ∃ q, q = w2.heap.size := ⟨_, rfl⟩
  have HQ := Lib.hid hq
  have hq1 := HR2.out.lt
  rw [← hq] at hq1
  clear hq
  by_cases hc1 : c = 1
  · subst hc1
    obtain rfl : n = 1 := by omega
    go_wp2_with fail
    obtain ⟨c0, c1, c2, c3⟩ := HR2.out.cells
    obtain ⟨f0, f1, f2, f3⟩ := HR2.out.free
    refine wp_loop_rounds 1 ?_
    rw [rounds_succ]
    have hz := HR2.out.lt
    go_wp2
    have hW := (HR2.out.four j0)
    have lW := below_four L2.out (Nat.le_refl _) j0
    have hz2 := hW.lt
    generalize ((((w2.setCell ⟨w.heap.size, 0, none⟩ (.int .i64 j0.x0)).setCell ⟨w.heap.size, 1, none⟩ (.int .i64 j0.y0)).setCell ⟨w.heap.size, 2, none⟩ (.int .i64 j0.x1)).setCell ⟨w.heap.size, 3, none⟩ (.int .i64 j0.y1)) = W at hW lW hz2 ⊢
    obtain ⟨d0, d1, d2, d3⟩ := hW.cells
    exact bodyPost_ret (v := .tuple #[.agg #[.int .i64 j0.x0, .int .i64 j0.y0, .int .i64 j0.x1, .int .i64 j0.y1], .bool true]) (by simp [results, Try.results24, go_sem, d0, d1, d2, d3, hz2]) rfl ⟨by rw [HJ0.out], lW.alloc lW.size _⟩
  · have hc1' : (1 : Int) < c := by omega
    have hcn : ((c : Int) == 1) = false := by simp; omega
    go_wp2_with fail
    rw [← HQ.out]
    go_loopw [23] (fun i wr => ∃ k : Nat, i = .int .i64 k ∧ k + 1 ≤ n ∧ RcAt wr q (boundsN F (k + 1)) ∧ RcAt wr w.heap.size zeroR ∧ Below w.heap.size w wr) (fun i _ => n - 1 - (intOf i).toNat)
    case atStart =>
      refine ⟨0, rfl, by omega, ?_, HR2.out.keep ((Below.refl _ _).alloc (Nat.le_refl _) _) HR2.out.lt, L2.out.alloc L2.out.size _⟩
      rw [← HJ0.out, HQ.out]
      exact RcAt.new w2 j0
    case round =>
      obtain ⟨k, rfl, hk, hj, hz, hl⟩ := hrel
      obtain ⟨wo, hwo⟩ : ∃ wo, wo = wr := ⟨_, rfl⟩
      subst hwo
      have HJ := Lib.hid hj
      have HZ := Lib.hid hz
      have HL := Lib.hid hl
      clear hz hl
      by_cases hlt : k + 1 < n
      · obtain ⟨v0, v1⟩ := HC.out (k + 1) hlt
        have u0 := kp' HL.out (cell_lt' v0) v0
        have u1 := kp' HL.out (cell_lt' v1) v1
        have hki : (k : Int) < n - 1 := by omega
        have hkn : k < n - 1 := by omega
        rw [show o + (k + 1) * 2 = o + 2 + k * 2 by omega] at u0 u1
        obtain ⟨p, hp⟩ : ∃ p, p = F (k + 1) := ⟨_, rfl⟩
        obtain ⟨j, hjj⟩ : ∃ j, j = boundsN F (k + 1) := ⟨_, rfl⟩
        rw [← hp] at u0 u1
        rw [← hjj] at hj HJ
        have KJ1 := Lib.hid (fun W => just_any p W)
        have kj2 := fun W => join_any j (justR p) W
        obtain ⟨jp, hjp⟩ : ∃ j, j = justR p := ⟨_, rfl⟩
        rw [← hjp] at KJ1 kj2
        obtain ⟨j', hj'⟩ : ∃ x, x = joinR j jp := ⟨_, rfl⟩
        rw [← hj'] at kj2
        have KJ2 := Lib.hid kj2
        have HN := Lib.hid (show j' = boundsN F (k + 1 + 1) by rw [bounds_next F (k + 1) (by omega), hj', hjp, hp, hjj])
        obtain ⟨c0, c1, c2, c3⟩ := hj.cells
        obtain ⟨f0, f1, f2, f3⟩ := hj.free
        have hql := hj.lt
        have HLp := Lib.hid ((HL.out.alloc HL.out.size (.cells #[.int .i64 p.x, .int .i64 p.y] 23)).drew)
        have HJp := Lib.hid (World.rowIs.drew (World.rowIs.alloc HJ.out (.cells #[.int .i64 p.x, .int .i64 p.y] 23)))
        have HZp := Lib.hid (World.rowIs.drew (World.rowIs.alloc HZ.out (.cells #[.int .i64 p.x, .int .i64 p.y] 23)))
        clear hj kj2 hjp hj' hp hjj v0 v1
        go_wp2_with fail
        go_region_with (first
          | (go_at_call 46; (with_reducible refine (KJ1.out _).mono ?_); rintro e w' ⟨rfl, l1⟩; have LA := Lib.hid (below2' HLp.out l1); have hA := World.rowIs.of_block HJp.out (l1.block q (by simp; omega)); have HA := Lib.hid hA; have HZA := Lib.hid (World.rowIs.of_block HZp.out (l1.block w.heap.size (by have := HZp.out.lt; simpa using this))); obtain ⟨e0, e1, e2, e3⟩ := RcAt.cells hA; clear hA l1)
          | (go_at_call 47; (with_reducible refine (KJ2.out _).mono ?_); rintro e w' ⟨rfl, l1⟩; have LB := Lib.hid (below2' LA.out l1); have hB := RcAt.keep HA.out l1 (RcAt.lt HA.out); have HB := Lib.hid hB; have HZB := Lib.hid (RcAt.keep HZA.out l1 (RcAt.lt HZA.out)); obtain ⟨g0, g1, g2, g3⟩ := hB.cells; obtain ⟨k0, k1, k2, k3⟩ := hB.free; clear hB l1))
        all_goals go_wp2
        all_goals go_roundw
        all_goals first
          | exact ⟨k + 1, by first | rfl | go_num, by omega, by rw [← HN.out]; exact HB.out.four j', World.rowIs.of_block HZB.out ((below_four (Below.refl (w.heap.size + 1) _) (by omega) j').block w.heap.size (by omega)), below_four LB.out (by omega) j'⟩
          | (simp [intOf]; omega)
      · have hk1 : k + 1 = n := by omega
        have hge : ¬ (k : Int) < n - 1 := by omega
        have hgn : ¬ k < n - 1 := by omega
        rw [hk1] at hj HJ
        obtain ⟨j, hjj⟩ : ∃ j, j = boundsN F n := ⟨_, rfl⟩
        rw [← hjj] at hj HJ
        have HJJ := Lib.hid hjj
        obtain ⟨c0, c1, c2, c3⟩ := hj.cells
        obtain ⟨z0, z1, z2, z3⟩ := HZ.out.cells
        obtain ⟨f0, f1, f2, f3⟩ := HZ.out.free
        clear hk1 hjj hj
        go_wp2
        have hW := (HZ.out.four j)
        have lW := below_four HL.out (Nat.le_refl _) j
        generalize ((((wo.setCell ⟨w.heap.size, 0, none⟩ (.int .i64 j.x0)).setCell ⟨w.heap.size, 1, none⟩ (.int .i64 j.y0)).setCell ⟨w.heap.size, 2, none⟩ (.int .i64 j.x1)).setCell ⟨w.heap.size, 3, none⟩ (.int .i64 j.y1)) = W at hW lW ⊢
        obtain ⟨d0, d1, d2, d3⟩ := hW.cells
        exact bodyPost_ret (v := .tuple #[.agg #[.int .i64 j.x0, .int .i64 j.y0, .int .i64 j.x1, .int .i64 j.y1], .bool true]) (by simp [results, Try.results24, go_sem, d0, d1, d2, d3]) rfl ⟨by rw [HJJ.out], lW⟩
end Go.Proofs.Ytehmdokcdnlcdaa
