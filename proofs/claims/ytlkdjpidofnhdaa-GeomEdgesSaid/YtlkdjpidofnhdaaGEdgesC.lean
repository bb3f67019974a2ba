/- GeomEdges: the walk. -/
import Derived.Test.YtlkdjpidofnhdaaGFour
import Derived.Test.YtlkdjpidofnhdaaGRefMeet
import Derived.Test.YtlkdjpidofnhdaaGArgs2
namespace Go.Proofs.Ytlkdjpidofnhdaa
open Go.RowKit
set_option linter.unusedVariables false


set_option maxRecDepth 100000 in
set_option maxHeartbeats 16000000 in
theorem edges_none (a b c d : Pt) (t : Int) (o m x md : Bool)
    (K0 : Hid (∀ W : World, Calls Try.prog 10 #[.slice (some ⟨W.heap.size, 0, none⟩) 3 3] (W.alloc (.cells #[.int .i64 a.x, .int .i64 a.y, .int .i64 b.x, .int .i64 b.y, .int .i64 c.x, .int .i64 c.y] 23)) fun e w' => e = .returned (.bool false) ∧ Below (W.heap.size + 1) (W.alloc (.cells #[.int .i64 a.x, .int .i64 a.y, .int .i64 b.x, .int .i64 b.y, .int .i64 c.x, .int .i64 c.y] 23)) w'))
    (K1 : Hid (∀ W : World, Calls Try.prog 11 #[.agg #[.int .i64 d.x, .int .i64 d.y]] W fun e w' => e = .returned (.bool md) ∧ Below W.heap.size W w'))
    (K2 : Hid (∀ W : World, Calls Try.prog 16 #[.agg #[.int .i64 d.x, .int .i64 d.y]] W fun e w' => e = .returned (.bool md) ∧ Below W.heap.size W w'))
    (K3 : Hid (∀ W : World, Calls Try.prog 14 #[.agg #[.int .i64 a.x, .int .i64 a.y], .agg #[.int .i64 b.x, .int .i64 b.y], .agg #[.int .i64 c.x, .int .i64 c.y]] W fun e w' => e = .returned (.int .i64 0) ∧ Below W.heap.size W w'))
    (K4 : Hid (∀ W : World, Calls Try.prog 15 #[.agg #[.int .i64 a.x, .int .i64 a.y], .agg #[.int .i64 b.x, .int .i64 b.y], .agg #[.int .i64 c.x, .int .i64 c.y]] W fun e w' => e = .returned (.bool false) ∧ Below W.heap.size W w'))
    (K7 : Hid (∀ W : World, Calls Try.prog 17 #[.agg #[.int .i64 a.x, .int .i64 a.y], .agg #[.int .i64 b.x, .int .i64 b.y], .agg #[.int .i64 c.x, .int .i64 c.y], .agg #[.int .i64 d.x, .int .i64 d.y]] W fun e w' => e = .returned (.bool false) ∧ Below W.heap.size W w'))
    (K8 : Hid (∀ W : World, Calls Try.prog 18 #[.agg #[.int .i64 a.x, .int .i64 a.y], .agg #[.int .i64 b.x, .int .i64 b.y], .agg #[.int .i64 c.x, .int .i64 c.y], .agg #[.int .i64 d.x, .int .i64 d.y]] W fun e w' => e = .returned (.bool false) ∧ Below W.heap.size W w')) (w : World) : Calls Try.prog 3 #[.agg #[.int .i64 a.x, .int .i64 a.y, .int .i64 b.x, .int .i64 b.y, .int .i64 c.x, .int .i64 c.y, .int .i64 d.x, .int .i64 d.y]] w fun e w' => e = .returned (.bool true) ∧ Below w.heap.size w w' := by
  have K11 := Lib.hid gAwake_any
  go_enter Try.func3, Try.ntmps3
  go_upto_region 2 with (fail)
  go_cut [3, 4, 5, 6] (fun u1 u2 u3 u4 W => CutT w a b c d u1 u2 u3 u4 W)
  case first =>
    go_wp2_with fail
    have hSB := s9_start w a b c d
    generalize (w.alloc (.cells #[.int .i64 a.x, .int .i64 a.y, .int .i64 b.x, .int .i64 b.y, .int .i64 c.x, .int .i64 c.y, .int .i64 d.x, .int .i64 d.y] 24)) = B at hSB ⊢
    have SB := Lib.hid hSB
    clear hSB
    go_region_held3 (fun W => Below w.heap.size w W ∧ W.cell? ⟨w.heap.size, 0, none⟩ = some (.int .i64 a.x) ∧ W.cell? ⟨w.heap.size, 1, none⟩ = some (.int .i64 a.y) ∧ W.cell? ⟨w.heap.size, 2, none⟩ = some (.int .i64 b.x) ∧ W.cell? ⟨w.heap.size, 3, none⟩ = some (.int .i64 b.y) ∧ W.cell? ⟨w.heap.size, 4, none⟩ = some (.int .i64 c.x) ∧ W.cell? ⟨w.heap.size, 5, none⟩ = some (.int .i64 c.y) ∧ W.cell? ⟨w.heap.size, 6, none⟩ = some (.int .i64 d.x) ∧ W.cell? ⟨w.heap.size, 7, none⟩ = some (.int .i64 d.y)) (repeat (first | with_reducible assumption | with_reducible exact SB.out | with_reducible refine s9_alloc _ ?_ | with_reducible refine s9_drew ?_)) (fail)
    all_goals go_wp2_with fail
    all_goals go_meet
    all_goals refine ⟨_, _, _, _, ⟨rfl, rfl, rfl, rfl⟩, sg_mk (a := a) (b := b) (c := c) (d := d) ?_ ?_⟩
    all_goals first | (repeat (first | with_reducible assumption | with_reducible exact SB.out | with_reducible refine s9_alloc _ ?_ | with_reducible refine s9_drew ?_); done) | skip
    all_goals (refine ⟨?_, ?_, ?_, ?_, ?_, ?_, ?_, ?_⟩ <;> go_simp)
  case rest =>
    obtain ⟨g1, g2, g3, g4, ⟨rfl, rfl, rfl, rfl⟩, hS⟩ := hcut
    have HS := Lib.hid hS
    obtain ⟨_, c0, c1, c2, c3, c4, c5, c6, c7⟩ := hS
    go_wp2_with fail
    (with_reducible refine (K0.out _).mono ?_); rintro _ w1 ⟨rfl, l⟩
    have hS := sg_keep (w := w) (by have l' := ((Below.refl _ _).alloc (Nat.le_refl _) _).trans (l.mono (by omega)); exact l') HS.out
    clear l HS
    have HS := Lib.hid hS
    obtain ⟨_, c0, c1, c2, c3, c4, c5, c6, c7⟩ := hS
    clear c0 c1 c2 c3 c4 c5 c6 c7
    go_wp2_with fail
    go_region_held3 (fun W => Below w.heap.size w W ∧ W.cell? ⟨g1, 0, none⟩ = some (.int .i64 a.x) ∧ W.cell? ⟨g1, 1, none⟩ = some (.int .i64 a.y) ∧ W.cell? ⟨g2, 0, none⟩ = some (.int .i64 b.x) ∧ W.cell? ⟨g2, 1, none⟩ = some (.int .i64 b.y) ∧ W.cell? ⟨g3, 0, none⟩ = some (.int .i64 c.x) ∧ W.cell? ⟨g3, 1, none⟩ = some (.int .i64 c.y) ∧ W.cell? ⟨g4, 0, none⟩ = some (.int .i64 d.x) ∧ W.cell? ⟨g4, 1, none⟩ = some (.int .i64 d.y)) (with_reducible first | assumption | exact HS.out | exact sg_drew HS.out | exact sg_drew (by assumption)) (first
      | (go_at_call 14; (with_reducible refine (K3.out _).mono ?_); rintro e w' ⟨rfl, l1⟩; have hS := sg_keep (w := w) l1 (by with_reducible first | assumption | exact HS.out | exact sg_drew HS.out | exact sg_drew (by assumption)); clear l1)
      | (go_at_call 15; (with_reducible refine (K4.out _).mono ?_); rintro e w' ⟨rfl, l1⟩; have hS := sg_keep (w := w) l1 (by with_reducible first | assumption | exact HS.out | exact sg_drew HS.out | exact sg_drew (by assumption)); clear l1)
      | (go_at_call 16; (with_reducible refine (K2.out _).mono ?_); rintro e w' ⟨rfl, l1⟩; have hS := sg_keep (w := w) l1 (by with_reducible first | assumption | exact HS.out | exact sg_drew HS.out | exact sg_drew (by assumption)); clear l1)
      | (go_at_call 11; (with_reducible refine (K1.out _).mono ?_); rintro e w' ⟨rfl, l1⟩; have hS := sg_keep (w := w) l1 (by with_reducible first | assumption | exact HS.out | exact sg_drew HS.out | exact sg_drew (by assumption)); clear l1))
    clear HS
    have HS := Lib.hid hS
    obtain ⟨_, c0, c1, c2, c3, c4, c5, c6, c7⟩ := hS
    go_wp2_with fail
    (with_reducible refine (K7.out _).mono ?_); rintro _ w5 ⟨rfl, l⟩
    have hS := sg_keep (w := w) l HS.out
    clear l HS
    have HS := Lib.hid hS
    obtain ⟨_, c0, c1, c2, c3, c4, c5, c6, c7⟩ := hS
    go_wp2_with fail
    (with_reducible refine (K8.out _).mono ?_); rintro _ w6 ⟨rfl, l⟩
    have hS := sg_keep (w := w) l HS.out
    clear l HS
    have HS := Lib.hid hS
    obtain ⟨_, c0, c1, c2, c3, c4, c5, c6, c7⟩ := hS
    go_wp2_with fail
    (with_reducible refine (K11.out _).mono ?_); rintro _ w7 ⟨rfl, l⟩
    have hS := sg_keep (w := w) l HS.out
    clear l HS
    have HS := Lib.hid hS
    obtain ⟨_, c0, c1, c2, c3, c4, c5, c6, c7⟩ := hS
    go_wp2
    go_ret
    exact ⟨rfl, HS.out.1⟩
end Go.Proofs.Ytlkdjpidofnhdaa
