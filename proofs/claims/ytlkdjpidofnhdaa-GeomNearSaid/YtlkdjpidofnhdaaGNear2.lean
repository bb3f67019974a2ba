/- GeomNear: whole. -/
import Derived.Test.YtlkdjpidofnhdaaGNear
namespace Go.Proofs.Ytlkdjpidofnhdaa
open Go.RowKit
set_option linter.unusedVariables false

set_option maxRecDepth 100000 in
set_option maxHeartbeats 4000000 in
theorem geomNear_walk (r s : Rc) (p : Pt) (w : World) : Calls Try.prog 7 #[.agg #[.int .i64 r.x0, .int .i64 r.y0, .int .i64 r.x1, .int .i64 r.y1], .agg #[.int .i64 s.x0, .int .i64 s.y0, .int .i64 s.x1, .int .i64 s.y1], .agg #[.int .i64 p.x, .int .i64 p.y]] w fun e w' => e = .returned (.bool true) ∧ Below w.heap.size w w' := by
  cases hr : mayRB r
  · have k1 := fun W => mayRect_any r W
    rw [hr] at k1
    have K1 := Lib.hid k1
    have K0 := Lib.hid gAwake_any
    clear k1 hr
    go_enter Try.func7, Try.ntmps7
    go_wp2_with fail
    have hS := n10_start w r s p
    generalize (((w.alloc (.cells #[.int .i64 r.x0, .int .i64 r.y0, .int .i64 r.x1, .int .i64 r.y1] 36)).alloc (.cells #[.int .i64 s.x0, .int .i64 s.y0, .int .i64 s.x1, .int .i64 s.y1] 36)).alloc (.cells #[.int .i64 p.x, .int .i64 p.y] 23)) = B at hS ⊢
    (with_reducible refine (K1.out _).mono ?_); rintro _ w1 ⟨rfl, l1⟩
    have hS1 := n10_keep l1 hS
    clear l1 hS
    go_wp2_with fail
    (with_reducible refine (K0.out _).mono ?_); rintro _ w2 ⟨rfl, l2⟩
    have hS2 := n10_keep l2 hS1
    clear l2 hS1
    go_wp2
    go_ret
    exact ⟨rfl, hS2.1⟩
  · cases hs : mayRB s
    · have k1 := fun W => mayRect_any r W
      have k2 := fun W => mayRect_any s W
      rw [hr] at k1
      rw [hs] at k2
      have K1 := Lib.hid k1
      have K2 := Lib.hid k2
      have K0 := Lib.hid gAwake_any
      clear k1 k2 hr hs
      go_enter Try.func7, Try.ntmps7
      go_wp2_with fail
      have hS := n10_start w r s p
      generalize (((w.alloc (.cells #[.int .i64 r.x0, .int .i64 r.y0, .int .i64 r.x1, .int .i64 r.y1] 36)).alloc (.cells #[.int .i64 s.x0, .int .i64 s.y0, .int .i64 s.x1, .int .i64 s.y1] 36)).alloc (.cells #[.int .i64 p.x, .int .i64 p.y] 23)) = B at hS ⊢
      (with_reducible refine (K1.out _).mono ?_); rintro _ w1 ⟨rfl, l1⟩
      have hS1 := n10_keep l1 hS
      clear l1 hS
      obtain ⟨_, _, _, _, _, _, _, _, _, _, _⟩ := (id hS1)
      go_wp2_with fail
      (with_reducible refine (K2.out _).mono ?_); rintro _ w2 ⟨rfl, l2⟩
      have hS2 := n10_keep l2 hS1
      clear l2 hS1
      go_wp2_with fail
      (with_reducible refine (K0.out _).mono ?_); rintro _ w3 ⟨rfl, l3⟩
      have hS3 := n10_keep l3 hS2
      clear l3 hS2
      go_wp2
      go_ret
      exact ⟨rfl, hS3.1⟩
    · cases hp : mayB p
      · have k1 := fun W => mayRect_any r W
        have k2 := fun W => mayRect_any s W
        have k3 := fun W => may_any p W
        rw [hr] at k1
        rw [hs] at k2
        rw [hp] at k3
        have K1 := Lib.hid k1
        have K2 := Lib.hid k2
        have K3 := Lib.hid k3
        have K0 := Lib.hid gAwake_any
        clear k1 k2 k3 hr hs hp
        go_enter Try.func7, Try.ntmps7
        go_wp2_with fail
        have hS := n10_start w r s p
        generalize (((w.alloc (.cells #[.int .i64 r.x0, .int .i64 r.y0, .int .i64 r.x1, .int .i64 r.y1] 36)).alloc (.cells #[.int .i64 s.x0, .int .i64 s.y0, .int .i64 s.x1, .int .i64 s.y1] 36)).alloc (.cells #[.int .i64 p.x, .int .i64 p.y] 23)) = B at hS ⊢
        (with_reducible refine (K1.out _).mono ?_); rintro _ w1 ⟨rfl, l1⟩
        have hS1 := n10_keep l1 hS
        clear l1 hS
        obtain ⟨_, _, _, _, _, _, _, _, _, _, _⟩ := (id hS1)
        go_wp2_with fail
        (with_reducible refine (K2.out _).mono ?_); rintro _ w2 ⟨rfl, l2⟩
        have hS2 := n10_keep l2 hS1
        clear l2
        clear hS1
        obtain ⟨_, _, _, _, _, _, _, _, _, _, _⟩ := (id hS2)
        go_wp2_with fail
        (with_reducible refine (K3.out _).mono ?_); rintro _ w3 ⟨rfl, l3⟩
        have hS3 := n10_keep l3 hS2
        clear l3 hS2
        go_wp2_with fail
        (with_reducible refine (K0.out _).mono ?_); rintro _ w4 ⟨rfl, l4⟩
        have hS4 := n10_keep l4 hS3
        clear l4 hS3
        go_wp2
        go_ret
        exact ⟨rfl, hS4.1⟩
      · exact near_walk0 r s p w hr hs hp
end Go.Proofs.Ytlkdjpidofnhdaa
