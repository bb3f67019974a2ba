/- geom's Join: the walk. -/
import Derived.Test.YtehmdokcdnlcdaaGBounds
namespace Go.Proofs.Ytehmdokcdnlcdaa
open Go.RowKit
set_option linter.unusedVariables false

abbrev vR (r : Rc) : Value := .agg #[.int .i64 r.x0, .int .i64 r.y0, .int .i64 r.x1, .int .i64 r.y1]
def joinG (r s : Rc) : Rc := if mayRB r && mayRB s then joinR r s else zeroR
theorem box3 (w : World) (r s : Rc) : (((w.alloc (.cells #[.int .i64 r.x0, .int .i64 r.y0, .int .i64 r.x1, .int .i64 r.y1] 36)).alloc (.cells #[.int .i64 s.x0, .int .i64 s.y0, .int .i64 s.x1, .int .i64 s.y1] 36)).alloc (.cells #[.int .i64 0, .int .i64 0, .int .i64 0, .int .i64 0] 36)).heap.size = w.heap.size + 3 ∧
    RcAt (((w.alloc (.cells #[.int .i64 r.x0, .int .i64 r.y0, .int .i64 r.x1, .int .i64 r.y1] 36)).alloc (.cells #[.int .i64 s.x0, .int .i64 s.y0, .int .i64 s.x1, .int .i64 s.y1] 36)).alloc (.cells #[.int .i64 0, .int .i64 0, .int .i64 0, .int .i64 0] 36)) w.heap.size r ∧
    RcAt (((w.alloc (.cells #[.int .i64 r.x0, .int .i64 r.y0, .int .i64 r.x1, .int .i64 r.y1] 36)).alloc (.cells #[.int .i64 s.x0, .int .i64 s.y0, .int .i64 s.x1, .int .i64 s.y1] 36)).alloc (.cells #[.int .i64 0, .int .i64 0, .int .i64 0, .int .i64 0] 36)) (w.heap.size + 1) s ∧
    RcAt (((w.alloc (.cells #[.int .i64 r.x0, .int .i64 r.y0, .int .i64 r.x1, .int .i64 r.y1] 36)).alloc (.cells #[.int .i64 s.x0, .int .i64 s.y0, .int .i64 s.x1, .int .i64 s.y1] 36)).alloc (.cells #[.int .i64 0, .int .i64 0, .int .i64 0, .int .i64 0] 36)) (w.heap.size + 1 + 1) zeroR ∧
    Below w.heap.size w (((w.alloc (.cells #[.int .i64 r.x0, .int .i64 r.y0, .int .i64 r.x1, .int .i64 r.y1] 36)).alloc (.cells #[.int .i64 s.x0, .int .i64 s.y0, .int .i64 s.x1, .int .i64 s.y1] 36)).alloc (.cells #[.int .i64 0, .int .i64 0, .int .i64 0, .int .i64 0] 36)) := by
  have a := RcAt.new w r
  have b := RcAt.new (w.alloc (.cells #[.int .i64 r.x0, .int .i64 r.y0, .int .i64 r.x1, .int .i64 r.y1] 36)) s
  have c := RcAt.new ((w.alloc (.cells #[.int .i64 r.x0, .int .i64 r.y0, .int .i64 r.x1, .int .i64 r.y1] 36)).alloc (.cells #[.int .i64 s.x0, .int .i64 s.y0, .int .i64 s.x1, .int .i64 s.y1] 36)) zeroR
  simp only [World.size_alloc] at b c
  refine ⟨by simp, ?_, ?_, c, (((Below.refl w.heap.size w).alloc (Nat.le_refl _) _).alloc (by simp) _).alloc (by simp; omega) _⟩
  · exact a.keep (((Below.refl _ _).alloc (Nat.le_refl _) _).alloc (by simp) _) (by simp)
  · exact b.keep ((Below.refl _ _).alloc (Nat.le_refl _) _) (by simp)
set_option maxRecDepth 100000 in
set_option maxHeartbeats 4000000 in
theorem joinG_any (r s : Rc) (w : World) : Calls Try.prog 30 #[vR r, vR s] w fun e w' => e = .returned (vR (joinG r s)) ∧ Below w.heap.size w w' := by
  obtain ⟨hz, ra, sa, ja, bl⟩ := box3 w r s
  have BL := Lib.hid bl
  have JA := Lib.hid ja
  have RA := Lib.hid ra
  have SA := Lib.hid sa
  have HZ := Lib.hid hz
  have k1 := fun W => mayRect_any r W
  have k2 := fun W => mayRect_any s W
  have K3 := Lib.hid (fun W => join_any r s W)
  clear bl ja ra sa hz
  unfold joinG
  cases hr : mayRB r
  · rw [hr] at k1
    have K1 := Lib.hid k1
    clear k1 k2 hr
    go_enter Try.func30, Try.ntmps30
    go_wp2_with fail
    (with_reducible refine (K1.out _).mono ?_); rintro _ w1 ⟨rfl, l1⟩
    have L1 := Lib.hid (BL.out.trans (l1.mono (by rw [HZ.out]; omega)))
    have hR := JA.out.keep l1 (by rw [HZ.out]; omega)
    obtain ⟨c0, c1, c2, c3⟩ := hR.cells
    obtain ⟨f0, f1, f2, f3⟩ := hR.free
    have HR := Lib.hid hR
    clear l1 hR
    go_wp2
    exact bodyPost_ret (v := vR zeroR) (by
      obtain ⟨d0, d1, d2, d3⟩ := (HR.out.four zeroR).cells
      unfold zeroR at d0 d1 d2 d3
      simp [results, Try.results30, go_sem, d0, d1, d2, d3, zeroR]) rfl ⟨rfl, below_four L1.out (by omega) zeroR⟩
  · rw [hr] at k1
    have K1 := Lib.hid k1
    cases hs : mayRB s
    · rw [hs] at k2
      have K2 := Lib.hid k2
      clear k1 k2 hr hs
      go_enter Try.func30, Try.ntmps30
      go_wp2_with fail
      (with_reducible refine (K1.out _).mono ?_); rintro _ w1 ⟨rfl, l1⟩
      have L1 := Lib.hid (BL.out.trans (l1.mono (by rw [HZ.out]; omega)))
      have R1 := Lib.hid (JA.out.keep l1 (by rw [HZ.out]; omega))
      have S1 := SA.out.keep l1 (by rw [HZ.out]; omega)
      obtain ⟨s0, s1, s2, s3⟩ := S1.cells
      have hz1 : w.heap.size + 1 + 1 < w1.heap.size := R1.out.lt
      clear l1 S1
      go_wp2_with fail
      (with_reducible refine (K2.out _).mono ?_); rintro _ w2 ⟨rfl, l2⟩
      have L2 := Lib.hid (below2' L1.out l2)
      have hR := R1.out.keep l2 hz1
      obtain ⟨c0, c1, c2, c3⟩ := hR.cells
      obtain ⟨f0, f1, f2, f3⟩ := hR.free
      have HR := Lib.hid hR
      clear l2 hR s0 s1 s2 s3
      go_wp2
      exact bodyPost_ret (v := vR zeroR) (by
        obtain ⟨d0, d1, d2, d3⟩ := (HR.out.four zeroR).cells
        unfold zeroR at d0 d1 d2 d3
        simp [results, Try.results30, go_sem, d0, d1, d2, d3, zeroR]) rfl ⟨rfl, below_four L2.out (by omega) zeroR⟩
    · rw [hs] at k2
      have K2 := Lib.hid k2
      obtain ⟨j, hj⟩ : ∃ j, j = joinR r s := ⟨_, rfl⟩
      rw [← hj] at K3
      show Calls _ _ _ _ fun e w' => e = .returned (vR (joinR r s)) ∧ Below w.heap.size w w'
      rw [← hj]
      clear k1 k2 hr hs hj
      go_enter Try.func30, Try.ntmps30
      go_wp2_with fail
      (with_reducible refine (K1.out _).mono ?_); rintro _ w1 ⟨rfl, l1⟩
      have L1 := Lib.hid (BL.out.trans (l1.mono (by rw [HZ.out]; omega)))
      have R1 := Lib.hid (JA.out.keep l1 (by rw [HZ.out]; omega))
      have S1 := SA.out.keep l1 (by rw [HZ.out]; omega)
      have Q1 := RA.out.keep l1 (by rw [HZ.out]; omega)
      obtain ⟨s0, s1, s2, s3⟩ := S1.cells
      obtain ⟨q0, q1, q2, q3⟩ := Q1.cells
      have hz1 : w.heap.size + 1 + 1 < w1.heap.size := R1.out.lt
      have HQ := Lib.hid (And.intro S1 Q1)
      clear l1 S1 Q1
      go_wp2_with fail
      (with_reducible refine (K2.out _).mono ?_); rintro _ w2 ⟨rfl, l2⟩
      have L2 := Lib.hid (below2' L1.out l2)
      have R2 := Lib.hid (R1.out.keep l2 hz1)
      have S2 := HQ.out.1.keep l2 (by omega)
      have Q2 := HQ.out.2.keep l2 (by omega)
      have hz2 : w.heap.size + 1 + 1 < w2.heap.size := R2.out.lt
      clear l2 s0 s1 s2 s3 q0 q1 q2 q3
      obtain ⟨s0, s1, s2, s3⟩ := S2.cells
      obtain ⟨q0, q1, q2, q3⟩ := Q2.cells
      clear S2 Q2
      go_wp2_with fail
      (with_reducible refine (K3.out _).mono ?_); rintro _ w3 ⟨rfl, l3⟩
      have L3 := Lib.hid (below2' L2.out l3)
      have hR := R2.out.keep l3 hz2
      obtain ⟨c0, c1, c2, c3⟩ := hR.cells
      obtain ⟨f0, f1, f2, f3⟩ := hR.free
      have HR := Lib.hid hR
      clear l3 hR s0 s1 s2 s3 q0 q1 q2 q3
      go_wp2
      exact bodyPost_ret (v := vR j) (by
        obtain ⟨d0, d1, d2, d3⟩ := (HR.out.four j).cells
        simp [results, Try.results30, go_sem, d0, d1, d2, d3]) rfl ⟨rfl, below_four L3.out (by omega) j⟩
end Go.Proofs.Ytehmdokcdnlcdaa
