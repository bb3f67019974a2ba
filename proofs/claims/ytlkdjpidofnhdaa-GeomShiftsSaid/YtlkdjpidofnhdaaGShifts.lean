/- GeomShifts: the walk. -/
import Derived.Test.YtlkdjpidofnhdaaGRingM
import Derived.Test.YtlkdjpidofnhdaaGAwake
import Derived.Test.YtlkdjpidofnhdaaGArgs3
import Derived.Test.YtlkdjpidofnhdaaGPts
import Derived.Deep.DeepCutAuto
import Derived.Deep.CutRange
namespace Go.Proofs.Ytlkdjpidofnhdaa
open Go.RowKit
set_option linter.unusedVariables false

theorem box2_cells (w : World) (p v : Pt) : ((w.alloc (.cells #[.int .i64 p.x, .int .i64 p.y] 23)).alloc (.cells #[.int .i64 v.x, .int .i64 v.y] 23)).cell? ⟨w.heap.size, 0, none⟩ = some (.int .i64 p.x) ∧ ((w.alloc (.cells #[.int .i64 p.x, .int .i64 p.y] 23)).alloc (.cells #[.int .i64 v.x, .int .i64 v.y] 23)).cell? ⟨w.heap.size, 1, none⟩ = some (.int .i64 p.y) ∧ ((w.alloc (.cells #[.int .i64 p.x, .int .i64 p.y] 23)).alloc (.cells #[.int .i64 v.x, .int .i64 v.y] 23)).cell? ⟨w.heap.size + 1, 0, none⟩ = some (.int .i64 v.x) ∧ ((w.alloc (.cells #[.int .i64 p.x, .int .i64 p.y] 23)).alloc (.cells #[.int .i64 v.x, .int .i64 v.y] 23)).cell? ⟨w.heap.size + 1, 1, none⟩ = some (.int .i64 v.y) := by
  refine ⟨?_, ?_, ?_, ?_⟩ <;> go_simp
theorem below2box (w : World) (p v : Pt) : Below w.heap.size w ((w.alloc (.cells #[.int .i64 p.x, .int .i64 p.y] 23)).alloc (.cells #[.int .i64 v.x, .int .i64 v.y] 23)) := ((Below.refl w.heap.size w).alloc (Nat.le_refl _) _).alloc (by simp) _
set_option maxRecDepth 100000 in
set_option maxHeartbeats 1600000 in
theorem shifts_big (s : Sl) (p v : Pt) (w : World) (h : ¬ s.n ≤ 60) : Calls Try.prog 8 #[.slice s.A s.n s.c, .agg #[.int .i64 p.x, .int .i64 p.y], .agg #[.int .i64 v.x, .int .i64 v.y]] w fun e w' => e = .returned (.bool true) ∧ Below w.heap.size w w' := by
  have hL := Lib.hid (below2box w p v)
  obtain ⟨A, n, c, F⟩ := s
  have h : ¬ n ≤ 60 := h
  dsimp only
  go_enter Try.func8, Try.ntmps8
  go_wp2
  go_ret
  exact ⟨rfl, hL.out⟩
set_option maxRecDepth 100000 in
set_option maxHeartbeats 1600000 in
theorem shifts_none (s : Sl) (p v : Pt) (w : World) (h : s.n = 0) : Calls Try.prog 8 #[.slice s.A s.n s.c, .agg #[.int .i64 p.x, .int .i64 p.y], .agg #[.int .i64 v.x, .int .i64 v.y]] w fun e w' => e = .returned (.bool true) ∧ Below w.heap.size w w' := by
  have hL := Lib.hid (below2box w p v)
  obtain ⟨A, n, c, F⟩ := s
  obtain rfl : n = 0 := h
  have K := Lib.hid gAwake_any
  dsimp only
  go_enter Try.func8, Try.ntmps8
  go_wp2_with fail
  (with_reducible refine (K.out _).mono ?_); rintro _ w1 ⟨rfl, l1⟩
  have L1 := Lib.hid (hL.out.trans (l1.mono (by simp; omega)))
  clear l1
  go_wp2
  go_ret
  exact ⟨rfl, L1.out⟩
set_option maxRecDepth 100000 in
set_option maxHeartbeats 1600000 in
theorem shifts_noby (s : Sl) (p v : Pt) (w : World) (h : s.n ≤ 60) (h0 : 0 < s.n) (hv : mayB v = false) : Calls Try.prog 8 #[.slice s.A s.n s.c, .agg #[.int .i64 p.x, .int .i64 p.y], .agg #[.int .i64 v.x, .int .i64 v.y]] w fun e w' => e = .returned (.bool true) ∧ Below w.heap.size w w' := by
  have hL := Lib.hid (below2box w p v)
  obtain ⟨A, n, c, F⟩ := s
  have h : n ≤ 60 := h
  have h0 : 0 < n := h0
  have K := Lib.hid gAwake_any
  have k1 := fun W => may_any v W
  rw [hv] at k1
  have K1 := Lib.hid k1
  clear k1 hv
  dsimp only
  go_enter Try.func8, Try.ntmps8
  go_wp2_with fail
  (with_reducible refine (K1.out _).mono ?_); rintro _ w1 ⟨rfl, l1⟩
  have L1 := Lib.hid (hL.out.trans (l1.mono (by simp; omega)))
  clear l1
  go_wp2_with fail
  (with_reducible refine (K.out _).mono ?_); rintro _ w2 ⟨rfl, l2⟩
  have L2 := Lib.hid (below2' L1.out l2)
  clear l2
  go_wp2
  go_ret
  exact ⟨rfl, L2.out⟩
set_option maxRecDepth 100000 in
set_option maxHeartbeats 1600000 in
theorem shifts_nop (s : Sl) (p v : Pt) (w : World) (h : s.n ≤ 60) (h0 : 0 < s.n) (hv : mayB v = true) (hp : mayB p = false) : Calls Try.prog 8 #[.slice s.A s.n s.c, .agg #[.int .i64 p.x, .int .i64 p.y], .agg #[.int .i64 v.x, .int .i64 v.y]] w fun e w' => e = .returned (.bool true) ∧ Below w.heap.size w w' := by
  have hL := Lib.hid (below2box w p v)
  obtain ⟨A, n, c, F⟩ := s
  have h : n ≤ 60 := h
  have h0 : 0 < n := h0
  have K := Lib.hid gAwake_any
  have k1 := fun W => may_any v W
  have k2 := fun W => may_any p W
  rw [hv] at k1
  rw [hp] at k2
  have K1 := Lib.hid k1
  have K2 := Lib.hid k2
  obtain ⟨b0, b1, b2, b3⟩ := box2_cells w p v
  clear k1 hv k2 hp
  dsimp only
  go_enter Try.func8, Try.ntmps8
  go_wp2_with fail
  (with_reducible refine (K1.out _).mono ?_); rintro _ w1 ⟨rfl, l1⟩
  have L1 := Lib.hid (hL.out.trans (l1.mono (by simp; omega)))
  have c0 := kp' l1 (cell_lt' b0) b0
  have c1 := kp' l1 (cell_lt' b1) b1
  clear l1 b0 b1 b2 b3
  go_wp2_with fail
  (with_reducible refine (K2.out _).mono ?_); rintro _ w2 ⟨rfl, l2⟩
  have L2 := Lib.hid (below2' L1.out l2)
  clear l2
  go_wp2_with fail
  (with_reducible refine (K.out _).mono ?_); rintro _ w3 ⟨rfl, l3⟩
  have L3 := Lib.hid (below2' L2.out l3)
  clear l3
  go_wp2
  go_ret
  exact ⟨rfl, L3.out⟩
end Go.Proofs.Ytlkdjpidofnhdaa
