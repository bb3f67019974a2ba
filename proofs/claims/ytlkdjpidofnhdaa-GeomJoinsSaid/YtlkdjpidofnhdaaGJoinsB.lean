/- GeomJoins: the walk. -/
import Derived.Test.YtlkdjpidofnhdaaGJoinsA
import Derived.Test.YtlkdjpidofnhdaaGAwake
import Derived.Test.YtlkdjpidofnhdaaGArgs3
import Derived.Test.YtlkdjpidofnhdaaGPts
import Derived.Test.YtlkdjpidofnhdaaGRingM
import Derived.Deep.RegionHeld3
namespace Go.Proofs.Ytlkdjpidofnhdaa
open Go.RowKit
set_option linter.unusedVariables false


theorem sj_keep {w0 W W' : World} {g6 g8 g10 : Nat} {r s b : Rc} (l : Below W.heap.size W W') (h : Below w0.heap.size w0 W ∧ (W.cell? ⟨g6, 0, none⟩ = some (.int .i64 r.x0) ∧ W.cell? ⟨g6, 1, none⟩ = some (.int .i64 r.y0) ∧ W.cell? ⟨g6, 2, none⟩ = some (.int .i64 r.x1) ∧ W.cell? ⟨g6, 3, none⟩ = some (.int .i64 r.y1)) ∧ (W.cell? ⟨g8, 0, none⟩ = some (.int .i64 s.x0) ∧ W.cell? ⟨g8, 1, none⟩ = some (.int .i64 s.y0) ∧ W.cell? ⟨g8, 2, none⟩ = some (.int .i64 s.x1) ∧ W.cell? ⟨g8, 3, none⟩ = some (.int .i64 s.y1)) ∧ (W.cell? ⟨g10, 0, none⟩ = some (.int .i64 b.x0) ∧ W.cell? ⟨g10, 1, none⟩ = some (.int .i64 b.y0) ∧ W.cell? ⟨g10, 2, none⟩ = some (.int .i64 b.x1) ∧ W.cell? ⟨g10, 3, none⟩ = some (.int .i64 b.y1))) : Below w0.heap.size w0 W' ∧ (W'.cell? ⟨g6, 0, none⟩ = some (.int .i64 r.x0) ∧ W'.cell? ⟨g6, 1, none⟩ = some (.int .i64 r.y0) ∧ W'.cell? ⟨g6, 2, none⟩ = some (.int .i64 r.x1) ∧ W'.cell? ⟨g6, 3, none⟩ = some (.int .i64 r.y1)) ∧ (W'.cell? ⟨g8, 0, none⟩ = some (.int .i64 s.x0) ∧ W'.cell? ⟨g8, 1, none⟩ = some (.int .i64 s.y0) ∧ W'.cell? ⟨g8, 2, none⟩ = some (.int .i64 s.x1) ∧ W'.cell? ⟨g8, 3, none⟩ = some (.int .i64 s.y1)) ∧ (W'.cell? ⟨g10, 0, none⟩ = some (.int .i64 b.x0) ∧ W'.cell? ⟨g10, 1, none⟩ = some (.int .i64 b.y0) ∧ W'.cell? ⟨g10, 2, none⟩ = some (.int .i64 b.x1) ∧ W'.cell? ⟨g10, 3, none⟩ = some (.int .i64 b.y1)) :=
  ⟨below2' h.1 l, ⟨kp' l (cell_lt' h.2.1.1) h.2.1.1, kp' l (cell_lt' h.2.1.2.1) h.2.1.2.1, kp' l (cell_lt' h.2.1.2.2.1) h.2.1.2.2.1, kp' l (cell_lt' h.2.1.2.2.2) h.2.1.2.2.2⟩, ⟨kp' l (cell_lt' h.2.2.1.1) h.2.2.1.1, kp' l (cell_lt' h.2.2.1.2.1) h.2.2.1.2.1, kp' l (cell_lt' h.2.2.1.2.2.1) h.2.2.1.2.2.1, kp' l (cell_lt' h.2.2.1.2.2.2) h.2.2.1.2.2.2⟩, ⟨kp' l (cell_lt' h.2.2.2.1) h.2.2.2.1, kp' l (cell_lt' h.2.2.2.2.1) h.2.2.2.2.1, kp' l (cell_lt' h.2.2.2.2.2.1) h.2.2.2.2.2.1, kp' l (cell_lt' h.2.2.2.2.2.2) h.2.2.2.2.2.2⟩⟩
theorem sj_drew {w0 W : World} {g6 g8 g10 : Nat} {r s b : Rc} (h : Below w0.heap.size w0 W ∧ (W.cell? ⟨g6, 0, none⟩ = some (.int .i64 r.x0) ∧ W.cell? ⟨g6, 1, none⟩ = some (.int .i64 r.y0) ∧ W.cell? ⟨g6, 2, none⟩ = some (.int .i64 r.x1) ∧ W.cell? ⟨g6, 3, none⟩ = some (.int .i64 r.y1)) ∧ (W.cell? ⟨g8, 0, none⟩ = some (.int .i64 s.x0) ∧ W.cell? ⟨g8, 1, none⟩ = some (.int .i64 s.y0) ∧ W.cell? ⟨g8, 2, none⟩ = some (.int .i64 s.x1) ∧ W.cell? ⟨g8, 3, none⟩ = some (.int .i64 s.y1)) ∧ (W.cell? ⟨g10, 0, none⟩ = some (.int .i64 b.x0) ∧ W.cell? ⟨g10, 1, none⟩ = some (.int .i64 b.y0) ∧ W.cell? ⟨g10, 2, none⟩ = some (.int .i64 b.x1) ∧ W.cell? ⟨g10, 3, none⟩ = some (.int .i64 b.y1))) : Below w0.heap.size w0 W.drew ∧ (W.drew.cell? ⟨g6, 0, none⟩ = some (.int .i64 r.x0) ∧ W.drew.cell? ⟨g6, 1, none⟩ = some (.int .i64 r.y0) ∧ W.drew.cell? ⟨g6, 2, none⟩ = some (.int .i64 r.x1) ∧ W.drew.cell? ⟨g6, 3, none⟩ = some (.int .i64 r.y1)) ∧ (W.drew.cell? ⟨g8, 0, none⟩ = some (.int .i64 s.x0) ∧ W.drew.cell? ⟨g8, 1, none⟩ = some (.int .i64 s.y0) ∧ W.drew.cell? ⟨g8, 2, none⟩ = some (.int .i64 s.x1) ∧ W.drew.cell? ⟨g8, 3, none⟩ = some (.int .i64 s.y1)) ∧ (W.drew.cell? ⟨g10, 0, none⟩ = some (.int .i64 b.x0) ∧ W.drew.cell? ⟨g10, 1, none⟩ = some (.int .i64 b.y0) ∧ W.drew.cell? ⟨g10, 2, none⟩ = some (.int .i64 b.x1) ∧ W.drew.cell? ⟨g10, 3, none⟩ = some (.int .i64 b.y1)) := sj_keep (Below.refl _ _).drew h
theorem st_keep {w0 W W' : World} {g j g10 : Nat} {f : Pt} {b : Rc} (l : Below W.heap.size W W') (h : Below w0.heap.size w0 W ∧ (W.cell? ⟨g10, 0, none⟩ = some (.int .i64 b.x0) ∧ W.cell? ⟨g10, 1, none⟩ = some (.int .i64 b.y0) ∧ W.cell? ⟨g10, 2, none⟩ = some (.int .i64 b.x1) ∧ W.cell? ⟨g10, 3, none⟩ = some (.int .i64 b.y1)) ∧ W.cell? ⟨g, j, none⟩ = some (.int .i64 f.x) ∧ W.cell? ⟨g, j + 1, none⟩ = some (.int .i64 f.y)) : Below w0.heap.size w0 W' ∧ (W'.cell? ⟨g10, 0, none⟩ = some (.int .i64 b.x0) ∧ W'.cell? ⟨g10, 1, none⟩ = some (.int .i64 b.y0) ∧ W'.cell? ⟨g10, 2, none⟩ = some (.int .i64 b.x1) ∧ W'.cell? ⟨g10, 3, none⟩ = some (.int .i64 b.y1)) ∧ W'.cell? ⟨g, j, none⟩ = some (.int .i64 f.x) ∧ W'.cell? ⟨g, j + 1, none⟩ = some (.int .i64 f.y) :=
  ⟨below2' h.1 l, ⟨kp' l (cell_lt' h.2.1.1) h.2.1.1, kp' l (cell_lt' h.2.1.2.1) h.2.1.2.1, kp' l (cell_lt' h.2.1.2.2.1) h.2.1.2.2.1, kp' l (cell_lt' h.2.1.2.2.2) h.2.1.2.2.2⟩, kp' l (cell_lt' h.2.2.1) h.2.2.1, kp' l (cell_lt' h.2.2.2) h.2.2.2⟩
theorem st_drew {w0 W : World} {g j g10 : Nat} {f : Pt} {b : Rc} (h : Below w0.heap.size w0 W ∧ (W.cell? ⟨g10, 0, none⟩ = some (.int .i64 b.x0) ∧ W.cell? ⟨g10, 1, none⟩ = some (.int .i64 b.y0) ∧ W.cell? ⟨g10, 2, none⟩ = some (.int .i64 b.x1) ∧ W.cell? ⟨g10, 3, none⟩ = some (.int .i64 b.y1)) ∧ W.cell? ⟨g, j, none⟩ = some (.int .i64 f.x) ∧ W.cell? ⟨g, j + 1, none⟩ = some (.int .i64 f.y)) : Below w0.heap.size w0 W.drew ∧ (W.drew.cell? ⟨g10, 0, none⟩ = some (.int .i64 b.x0) ∧ W.drew.cell? ⟨g10, 1, none⟩ = some (.int .i64 b.y0) ∧ W.drew.cell? ⟨g10, 2, none⟩ = some (.int .i64 b.x1) ∧ W.drew.cell? ⟨g10, 3, none⟩ = some (.int .i64 b.y1)) ∧ W.drew.cell? ⟨g, j, none⟩ = some (.int .i64 f.x) ∧ W.drew.cell? ⟨g, j + 1, none⟩ = some (.int .i64 f.y) := st_keep (Below.refl _ _).drew h

set_option maxRecDepth 100000 in
set_option maxHeartbeats 8000000 in
theorem joins_tt (A1 A2 : Option Addr) (n m c1 c2 : Nat) (F G : Nat → Pt) (w : World) (h1 : n ≤ 60) (h2 : m ≤ 60) (r s b : Rc)
    (HP1 : Hid (Pts w A1 n F)) (HP2 : Hid (Pts w A2 m G)) (HN1 : Hid (A1 = none → c1 = 0)) (HN2 : Hid (A2 = none → c2 = 0))
    (K1 : Hid (∀ W : World, Below w.heap.size w W → Calls Try.prog 24 #[.slice A1 n c1] W fun e w' => e = .returned (.tuple #[vR r, .bool true]) ∧ Below W.heap.size W w'))
    (K2 : Hid (∀ W : World, Below w.heap.size w W → Calls Try.prog 24 #[.slice A2 m c2] W fun e w' => e = .returned (.tuple #[vR s, .bool true]) ∧ Below W.heap.size W w'))
    (K3 : Hid (∀ (A : Option Addr) (c : Nat) (W : World), OwnP W w.heap.size A (n + m) c (catP F n G) → Calls Try.prog 24 #[.slice A (n + m) c] W fun e w' => e = .returned (.tuple #[vR b, .bool true]) ∧ Below W.heap.size W w'))
    (KJ1 : Hid (∀ W : World, Calls Try.prog 30 #[vR r, vR s] W fun e w' => e = .returned (vR b) ∧ Below W.heap.size W w'))
    (KJ2 : Hid (∀ W : World, Calls Try.prog 30 #[vR s, vR r] W fun e w' => e = .returned (vR b) ∧ Below W.heap.size W w'))
    (KH : Hid (∀ (k : Nat), k < n + m → ∀ W : World, Calls Try.prog 34 #[vR b, .agg #[.int .i64 (catP F n G k).x, .int .i64 (catP F n G k).y]] W fun e w' => e = .returned (.bool true) ∧ Below W.heap.size W w')) (hpos : 0 < n + m) :
    Calls Try.prog 9 #[.slice A1 n c1, .slice A2 m c2] w fun e w' => e = .returned (.bool true) ∧ Below w.heap.size w w' := by
  have KA := Lib.hid gAwake_any
  have hs1 : ¬ (60 : Int) < n := by omega
  have hs2 : ¬ (60 : Int) < m := by omega
  have O0 := Lib.hid (OwnC.empty 23 w w.heap.size (Nat.le_refl _) (coP F))
  have L0 := Lib.hid (show Below w.heap.size w (w.alloc (.cells #[] 23)) from (Below.refl _ _).alloc (Nat.le_refl _) _)
  have X1 := Lib.hid ((HP1.out.keep L0.out).cells2)
  go_enter Try.func9, Try.ntmps9
  go_wp2_with (at_builtin; with_reducible refine wpList_append_two (w.alloc (.cells #[] 23)) rfl _ _ 26 23 (.agg #[.int .i64 0, .int .i64 0]) rfl rfl Try.underlying26 ptInfo w.heap.size _ 0 0 _ rfl O0.out A1 n c1 _ rfl X1.out (coP_one F) HN1.out (by omega) (by simp) ?d3)
  case d3 =>
    intro A' c' w1 o1 g1 _
    have o2 : OwnC 23 w1 w.heap.size A' n c' (coP F) := by
      have h := o1.congr fun j _ => cat_co F 0 F j
      try rw [Nat.zero_add] at h
      exact h.congr fun j _ => by rw [show catP F 0 F = F by funext i; unfold catP; simp]
    have l1 : Below w.heap.size w w1 := L0.out.trans ((Below.refl w.heap.size _).grown g1 (by simp) fun k e => by injection e with e; exact Nat.le_of_eq e)
    have O1 := Lib.hid o2
    have L1 := Lib.hid l1
    have X2 := Lib.hid ((HP2.out.keep l1).cells2)
    clear o1 g1 o2 l1 O0 L0 X1
    have hz1 : w.heap.size ≤ w1.heap.size := L1.out.size
    have e0 : 0 + n = n := Nat.zero_add n
    go_wp2_with (at_builtin; with_reducible refine wpList_append_two w1 rfl _ _ 26 23 (.agg #[.int .i64 0, .int .i64 0]) rfl rfl Try.underlying26 ptInfo w.heap.size A' n c' _ rfl O1.out A2 m c2 _ rfl X2.out (coP_one G) HN2.out (by omega) hz1 ?d3)
    case d3 =>
      intro A3 c3 w2 o1 g1 _
      have O2 := Lib.hid (o1.congr fun j _ => cat_co F n G j)
      have L2 := Lib.hid (L1.out.trans ((Below.refl w.heap.size w1).grown g1 hz1 fun k e => (OwnC.base_le O1.out e).1))
      clear o1 g1 O1 L1 X2 hz1
      go_wp2_with fail
      (with_reducible refine (K1.out _ L2.out).mono ?_); rintro _ w3 ⟨rfl, l3⟩
      have O3 := Lib.hid (O2.out.below l3)
      have L3 := Lib.hid (below2' L2.out l3)
      clear l3 O2 L2
      have l4 := (Below.refl w3.heap.size w3).alloc (Nat.le_refl _) (.cells #[.int .i64 r.x0, .int .i64 r.y0, .int .i64 r.x1, .int .i64 r.y1] 36)
      have q0 := RcAt.new w3 r
      have O4 := Lib.hid (O3.out.below l4)
      have L4 := Lib.hid (below2' L3.out l4)
      have Q4 := Lib.hid q0
      clear l4 O3 L3 q0
      go_wp2_with fail
      (with_reducible refine (K2.out _ L4.out).mono ?_); rintro _ w5 ⟨rfl, l5⟩
      have O5 := Lib.hid (O4.out.below l5)
      have L5 := Lib.hid (below2' L4.out l5)
      have Q5 := Lib.hid (Q4.out.keep l5 Q4.out.lt)
      clear l5 O4 L4 Q4
      have l6 := (Below.refl w5.heap.size w5).alloc (Nat.le_refl _) (.cells #[.int .i64 s.x0, .int .i64 s.y0, .int .i64 s.x1, .int .i64 s.y1] 36)
      have q0 := RcAt.new w5 s
      have O6 := Lib.hid (O5.out.below l6)
      have L6 := Lib.hid (below2' L5.out l6)
      have Q6 := Lib.hid (And.intro (Q5.out.keep l6 Q5.out.lt) q0)
      clear l6 O5 L5 Q5 q0
      go_wp2_with fail
      (with_reducible refine (K3.out _ _ _ O6.out).mono ?_); rintro _ w7 ⟨rfl, l7⟩
      have O7 := Lib.hid (O6.out.below l7)
      have L7 := Lib.hid (below2' L6.out l7)
      have Q7 := Lib.hid (And.intro (Q6.out.1.keep l7 Q6.out.1.lt) (Q6.out.2.keep l7 Q6.out.2.lt))
      clear l7 O6 L6 Q6
      have l8 := (Below.refl w7.heap.size w7).alloc (Nat.le_refl _) (.cells #[.int .i64 b.x0, .int .i64 b.y0, .int .i64 b.x1, .int .i64 b.y1] 36)
      have q0 := RcAt.new w7 b
      have O8 := Lib.hid (O7.out.below l8)
      have L8 := Lib.hid (below2' L7.out l8)
      have Q8 := Lib.hid (And.intro (And.intro (Q7.out.1.keep l8 Q7.out.1.lt) (Q7.out.2.keep l8 Q7.out.2.lt)) q0)
      clear l8 O7 L7 Q7 q0
      go_wp2_with fail
      obtain ⟨⟨q6, q8⟩, q10⟩ := Q8.out
      have hS0 := (show Below (w7.alloc (.cells #[.int .i64 b.x0, .int .i64 b.y0, .int .i64 b.x1, .int .i64 b.y1] 36)).heap.size (w7.alloc (.cells #[.int .i64 b.x0, .int .i64 b.y0, .int .i64 b.x1, .int .i64 b.y1] 36)) (w7.alloc (.cells #[.int .i64 b.x0, .int .i64 b.y0, .int .i64 b.x1, .int .i64 b.y1] 36)) ∧ ((w7.alloc (.cells #[.int .i64 b.x0, .int .i64 b.y0, .int .i64 b.x1, .int .i64 b.y1] 36)).cell? ⟨w3.heap.size, 0, none⟩ = some (.int .i64 r.x0) ∧ (w7.alloc (.cells #[.int .i64 b.x0, .int .i64 b.y0, .int .i64 b.x1, .int .i64 b.y1] 36)).cell? ⟨w3.heap.size, 1, none⟩ = some (.int .i64 r.y0) ∧ (w7.alloc (.cells #[.int .i64 b.x0, .int .i64 b.y0, .int .i64 b.x1, .int .i64 b.y1] 36)).cell? ⟨w3.heap.size, 2, none⟩ = some (.int .i64 r.x1) ∧ (w7.alloc (.cells #[.int .i64 b.x0, .int .i64 b.y0, .int .i64 b.x1, .int .i64 b.y1] 36)).cell? ⟨w3.heap.size, 3, none⟩ = some (.int .i64 r.y1)) ∧ ((w7.alloc (.cells #[.int .i64 b.x0, .int .i64 b.y0, .int .i64 b.x1, .int .i64 b.y1] 36)).cell? ⟨w5.heap.size, 0, none⟩ = some (.int .i64 s.x0) ∧ (w7.alloc (.cells #[.int .i64 b.x0, .int .i64 b.y0, .int .i64 b.x1, .int .i64 b.y1] 36)).cell? ⟨w5.heap.size, 1, none⟩ = some (.int .i64 s.y0) ∧ (w7.alloc (.cells #[.int .i64 b.x0, .int .i64 b.y0, .int .i64 b.x1, .int .i64 b.y1] 36)).cell? ⟨w5.heap.size, 2, none⟩ = some (.int .i64 s.x1) ∧ (w7.alloc (.cells #[.int .i64 b.x0, .int .i64 b.y0, .int .i64 b.x1, .int .i64 b.y1] 36)).cell? ⟨w5.heap.size, 3, none⟩ = some (.int .i64 s.y1)) ∧ ((w7.alloc (.cells #[.int .i64 b.x0, .int .i64 b.y0, .int .i64 b.x1, .int .i64 b.y1] 36)).cell? ⟨w7.heap.size, 0, none⟩ = some (.int .i64 b.x0) ∧ (w7.alloc (.cells #[.int .i64 b.x0, .int .i64 b.y0, .int .i64 b.x1, .int .i64 b.y1] 36)).cell? ⟨w7.heap.size, 1, none⟩ = some (.int .i64 b.y0) ∧ (w7.alloc (.cells #[.int .i64 b.x0, .int .i64 b.y0, .int .i64 b.x1, .int .i64 b.y1] 36)).cell? ⟨w7.heap.size, 2, none⟩ = some (.int .i64 b.x1) ∧ (w7.alloc (.cells #[.int .i64 b.x0, .int .i64 b.y0, .int .i64 b.x1, .int .i64 b.y1] 36)).cell? ⟨w7.heap.size, 3, none⟩ = some (.int .i64 b.y1)) from ⟨Below.refl _ _, q6.cells, q8.cells, q10.cells⟩)
      clear q6 q8 q10 Q8
      generalize (w7.alloc (.cells #[.int .i64 b.x0, .int .i64 b.y0, .int .i64 b.x1, .int .i64 b.y1] 36)) = w0 at hS0 O8 L8 ⊢
      generalize w3.heap.size = g6 at hS0 ⊢
      generalize w5.heap.size = g8 at hS0 ⊢
      generalize w7.heap.size = g10 at hS0 ⊢
      have HS := Lib.hid hS0
      clear hS0
      go_region_held3 (fun W => Below w0.heap.size w0 W ∧ (W.cell? ⟨g6, 0, none⟩ = some (.int .i64 r.x0) ∧ W.cell? ⟨g6, 1, none⟩ = some (.int .i64 r.y0) ∧ W.cell? ⟨g6, 2, none⟩ = some (.int .i64 r.x1) ∧ W.cell? ⟨g6, 3, none⟩ = some (.int .i64 r.y1)) ∧ (W.cell? ⟨g8, 0, none⟩ = some (.int .i64 s.x0) ∧ W.cell? ⟨g8, 1, none⟩ = some (.int .i64 s.y0) ∧ W.cell? ⟨g8, 2, none⟩ = some (.int .i64 s.x1) ∧ W.cell? ⟨g8, 3, none⟩ = some (.int .i64 s.y1)) ∧ (W.cell? ⟨g10, 0, none⟩ = some (.int .i64 b.x0) ∧ W.cell? ⟨g10, 1, none⟩ = some (.int .i64 b.y0) ∧ W.cell? ⟨g10, 2, none⟩ = some (.int .i64 b.x1) ∧ W.cell? ⟨g10, 3, none⟩ = some (.int .i64 b.y1))) (with_reducible first | assumption | exact HS.out | exact sj_drew HS.out | exact sj_drew (by assumption)) (first
        | (go_at_call 30; (with_reducible refine (KJ1.out _).mono ?_); rintro e w' ⟨rfl, l1⟩; have hS := sj_keep (w0 := w0) l1 (by with_reducible first | assumption | exact HS.out | exact sj_drew HS.out | exact sj_drew (by assumption)); clear l1)
        | (go_at_call 30; (with_reducible refine (KJ2.out _).mono ?_); rintro e w' ⟨rfl, l1⟩; have hS := sj_keep (w0 := w0) l1 (by with_reducible first | assumption | exact HS.out | exact sj_drew HS.out | exact sj_drew (by assumption)); clear l1))
      go_wp2_with fail
      obtain ⟨g, rfl, _, hgl, hcl⟩ := OwnC.at_ O8.out hpos
      have HC := Lib.hid hcl
      have HB := Lib.hid hS.1
      have HR := Lib.hid HS.out.2.2.2
      clear hcl
      have hnm : n + m ≤ 120 := by omega
      go_loopw [12] (fun i wr => (∃ k : Nat, k ≤ n + m ∧ i = .int .i64 k) ∧ Below w0.heap.size w0 wr) (fun i _ => (n + m) - (intOf i).toNat)
      case atStart => exact ⟨⟨0, by omega, rfl⟩, by first | exact HB.out | exact HB.out.drew⟩
      case round =>
        obtain ⟨⟨k, hk, rfl⟩, hb⟩ := hrel
        obtain ⟨wo, hwo⟩ : ∃ wo, wo = wr := ⟨_, rfl⟩
        subst hwo
        have LB := Lib.hid hb
        by_cases hlt : k < n + m
        · obtain ⟨f, hf⟩ : ∃ f, f = catP F n G k := ⟨_, rfl⟩
          have KH2 := Lib.hid (KH.out k hlt)
          rw [← hf] at KH2
          have y0 := kp' hb hgl (HC.out (k * 2) (by omega))
          have y1 := kp' hb hgl (HC.out (k * 2 + 1) (by omega))
          rw [coP_even, ← hf] at y0
          rw [coP_odd, ← hf] at y1
          obtain ⟨r0, r1, r2, r3⟩ := HR.out
          have HT := Lib.hid (show Below wo.heap.size wo wo ∧ (wo.cell? ⟨g10, 0, none⟩ = some (.int .i64 b.x0) ∧ wo.cell? ⟨g10, 1, none⟩ = some (.int .i64 b.y0) ∧ wo.cell? ⟨g10, 2, none⟩ = some (.int .i64 b.x1) ∧ wo.cell? ⟨g10, 3, none⟩ = some (.int .i64 b.y1)) ∧ wo.cell? ⟨g, k * 2, none⟩ = some (.int .i64 f.x) ∧ wo.cell? ⟨g, k * 2 + 1, none⟩ = some (.int .i64 f.y) from ⟨Below.refl _ _, ⟨kp' hb (cell_lt' r0) r0, kp' hb (cell_lt' r1) r1, kp' hb (cell_lt' r2) r2, kp' hb (cell_lt' r3) r3⟩, y0, y1⟩)
          clear hb hf r0 r1 r2 r3 y0 y1 hS
          go_wp2_with fail
          go_region_held3 (fun W => Below wo.heap.size wo W ∧ (W.cell? ⟨g10, 0, none⟩ = some (.int .i64 b.x0) ∧ W.cell? ⟨g10, 1, none⟩ = some (.int .i64 b.y0) ∧ W.cell? ⟨g10, 2, none⟩ = some (.int .i64 b.x1) ∧ W.cell? ⟨g10, 3, none⟩ = some (.int .i64 b.y1)) ∧ W.cell? ⟨g, k * 2, none⟩ = some (.int .i64 f.x) ∧ W.cell? ⟨g, k * 2 + 1, none⟩ = some (.int .i64 f.y)) (with_reducible first | assumption | exact HT.out | exact st_drew HT.out | exact st_drew (by assumption)) (first
            | (go_at_call 34; (with_reducible refine (KH2.out _).mono ?_); rintro e w' ⟨rfl, l1⟩; have hS := st_keep (w0 := wo) l1 (by with_reducible first | assumption | exact HT.out | exact st_drew HT.out | exact st_drew (by assumption)); clear l1))
          go_wp2
          go_roundw
          case rel => exact ⟨⟨k + 1, by omega, by go_num⟩, LB.out.trans (hS.1.mono LB.out.size)⟩
          case measure => simp [intOf]; omega
        · obtain rfl : k = n + m := by omega
          go_wp2_with fail
          (with_reducible refine (KA.out _).mono ?_); rintro _ w9 ⟨rfl, l9⟩
          have L9 := Lib.hid (L8.out.trans ((LB.out.trans (l9.mono LB.out.size)).mono L8.out.size))
          clear l9
          go_wp2
          go_ret
          exact ⟨rfl, L9.out⟩
end Go.Proofs.Ytlkdjpidofnhdaa
