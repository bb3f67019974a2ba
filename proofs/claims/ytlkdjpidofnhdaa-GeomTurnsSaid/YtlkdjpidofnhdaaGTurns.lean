/- GeomTurns: the walk. -/
import Derived.Test.YtlkdjpidofnhdaaGMeet
import Derived.Test.YtlkdjpidofnhdaaGAwake
import Derived.Test.YtlkdjpidofnhdaaGTurnsM
import Derived.Deep.DeepCutAuto
import Derived.Deep.CutRange
namespace Go.Proofs.Ytlkdjpidofnhdaa
open Go.RowKit
set_option linter.unusedVariables false


theorem s9_start (w : World) (a b c d : Pt) : Below w.heap.size w (w.alloc (.cells #[.int .i64 a.x, .int .i64 a.y, .int .i64 b.x, .int .i64 b.y, .int .i64 c.x, .int .i64 c.y, .int .i64 d.x, .int .i64 d.y] 24)) ∧ (w.alloc (.cells #[.int .i64 a.x, .int .i64 a.y, .int .i64 b.x, .int .i64 b.y, .int .i64 c.x, .int .i64 c.y, .int .i64 d.x, .int .i64 d.y] 24)).cell? ⟨w.heap.size, 0, none⟩ = some (.int .i64 a.x) ∧ (w.alloc (.cells #[.int .i64 a.x, .int .i64 a.y, .int .i64 b.x, .int .i64 b.y, .int .i64 c.x, .int .i64 c.y, .int .i64 d.x, .int .i64 d.y] 24)).cell? ⟨w.heap.size, 1, none⟩ = some (.int .i64 a.y) ∧ (w.alloc (.cells #[.int .i64 a.x, .int .i64 a.y, .int .i64 b.x, .int .i64 b.y, .int .i64 c.x, .int .i64 c.y, .int .i64 d.x, .int .i64 d.y] 24)).cell? ⟨w.heap.size, 2, none⟩ = some (.int .i64 b.x) ∧ (w.alloc (.cells #[.int .i64 a.x, .int .i64 a.y, .int .i64 b.x, .int .i64 b.y, .int .i64 c.x, .int .i64 c.y, .int .i64 d.x, .int .i64 d.y] 24)).cell? ⟨w.heap.size, 3, none⟩ = some (.int .i64 b.y) ∧ (w.alloc (.cells #[.int .i64 a.x, .int .i64 a.y, .int .i64 b.x, .int .i64 b.y, .int .i64 c.x, .int .i64 c.y, .int .i64 d.x, .int .i64 d.y] 24)).cell? ⟨w.heap.size, 4, none⟩ = some (.int .i64 c.x) ∧ (w.alloc (.cells #[.int .i64 a.x, .int .i64 a.y, .int .i64 b.x, .int .i64 b.y, .int .i64 c.x, .int .i64 c.y, .int .i64 d.x, .int .i64 d.y] 24)).cell? ⟨w.heap.size, 5, none⟩ = some (.int .i64 c.y) ∧ (w.alloc (.cells #[.int .i64 a.x, .int .i64 a.y, .int .i64 b.x, .int .i64 b.y, .int .i64 c.x, .int .i64 c.y, .int .i64 d.x, .int .i64 d.y] 24)).cell? ⟨w.heap.size, 6, none⟩ = some (.int .i64 d.x) ∧ (w.alloc (.cells #[.int .i64 a.x, .int .i64 a.y, .int .i64 b.x, .int .i64 b.y, .int .i64 c.x, .int .i64 c.y, .int .i64 d.x, .int .i64 d.y] 24)).cell? ⟨w.heap.size, 7, none⟩ = some (.int .i64 d.y) := by
  refine ⟨(Below.refl _ _).alloc (Nat.le_refl _) _, ?_, ?_, ?_, ?_, ?_, ?_, ?_, ?_⟩ <;> go_simp
theorem s9_keep {w W W' : World} {a b c d : Pt} (l : Below W.heap.size W W') (h : Below w.heap.size w W ∧ W.cell? ⟨w.heap.size, 0, none⟩ = some (.int .i64 a.x) ∧ W.cell? ⟨w.heap.size, 1, none⟩ = some (.int .i64 a.y) ∧ W.cell? ⟨w.heap.size, 2, none⟩ = some (.int .i64 b.x) ∧ W.cell? ⟨w.heap.size, 3, none⟩ = some (.int .i64 b.y) ∧ W.cell? ⟨w.heap.size, 4, none⟩ = some (.int .i64 c.x) ∧ W.cell? ⟨w.heap.size, 5, none⟩ = some (.int .i64 c.y) ∧ W.cell? ⟨w.heap.size, 6, none⟩ = some (.int .i64 d.x) ∧ W.cell? ⟨w.heap.size, 7, none⟩ = some (.int .i64 d.y)) : Below w.heap.size w W' ∧ W'.cell? ⟨w.heap.size, 0, none⟩ = some (.int .i64 a.x) ∧ W'.cell? ⟨w.heap.size, 1, none⟩ = some (.int .i64 a.y) ∧ W'.cell? ⟨w.heap.size, 2, none⟩ = some (.int .i64 b.x) ∧ W'.cell? ⟨w.heap.size, 3, none⟩ = some (.int .i64 b.y) ∧ W'.cell? ⟨w.heap.size, 4, none⟩ = some (.int .i64 c.x) ∧ W'.cell? ⟨w.heap.size, 5, none⟩ = some (.int .i64 c.y) ∧ W'.cell? ⟨w.heap.size, 6, none⟩ = some (.int .i64 d.x) ∧ W'.cell? ⟨w.heap.size, 7, none⟩ = some (.int .i64 d.y) :=
  ⟨below2' h.1 l, kp' l (cell_lt' h.2.1) h.2.1, kp' l (cell_lt' h.2.2.1) h.2.2.1, kp' l (cell_lt' h.2.2.2.1) h.2.2.2.1, kp' l (cell_lt' h.2.2.2.2.1) h.2.2.2.2.1, kp' l (cell_lt' h.2.2.2.2.2.1) h.2.2.2.2.2.1, kp' l (cell_lt' h.2.2.2.2.2.2.1) h.2.2.2.2.2.2.1, kp' l (cell_lt' h.2.2.2.2.2.2.2.1) h.2.2.2.2.2.2.2.1, kp' l (cell_lt' h.2.2.2.2.2.2.2.2) h.2.2.2.2.2.2.2.2⟩
theorem s9_alloc {w W : World} {a b c d : Pt} (o : Obj) (h : Below w.heap.size w W ∧ W.cell? ⟨w.heap.size, 0, none⟩ = some (.int .i64 a.x) ∧ W.cell? ⟨w.heap.size, 1, none⟩ = some (.int .i64 a.y) ∧ W.cell? ⟨w.heap.size, 2, none⟩ = some (.int .i64 b.x) ∧ W.cell? ⟨w.heap.size, 3, none⟩ = some (.int .i64 b.y) ∧ W.cell? ⟨w.heap.size, 4, none⟩ = some (.int .i64 c.x) ∧ W.cell? ⟨w.heap.size, 5, none⟩ = some (.int .i64 c.y) ∧ W.cell? ⟨w.heap.size, 6, none⟩ = some (.int .i64 d.x) ∧ W.cell? ⟨w.heap.size, 7, none⟩ = some (.int .i64 d.y)) : Below w.heap.size w (W.alloc o) ∧ (W.alloc o).cell? ⟨w.heap.size, 0, none⟩ = some (.int .i64 a.x) ∧ (W.alloc o).cell? ⟨w.heap.size, 1, none⟩ = some (.int .i64 a.y) ∧ (W.alloc o).cell? ⟨w.heap.size, 2, none⟩ = some (.int .i64 b.x) ∧ (W.alloc o).cell? ⟨w.heap.size, 3, none⟩ = some (.int .i64 b.y) ∧ (W.alloc o).cell? ⟨w.heap.size, 4, none⟩ = some (.int .i64 c.x) ∧ (W.alloc o).cell? ⟨w.heap.size, 5, none⟩ = some (.int .i64 c.y) ∧ (W.alloc o).cell? ⟨w.heap.size, 6, none⟩ = some (.int .i64 d.x) ∧ (W.alloc o).cell? ⟨w.heap.size, 7, none⟩ = some (.int .i64 d.y) := s9_keep ((Below.refl _ _).alloc (Nat.le_refl _) _) h
theorem s9_drew {w W : World} {a b c d : Pt} (h : Below w.heap.size w W ∧ W.cell? ⟨w.heap.size, 0, none⟩ = some (.int .i64 a.x) ∧ W.cell? ⟨w.heap.size, 1, none⟩ = some (.int .i64 a.y) ∧ W.cell? ⟨w.heap.size, 2, none⟩ = some (.int .i64 b.x) ∧ W.cell? ⟨w.heap.size, 3, none⟩ = some (.int .i64 b.y) ∧ W.cell? ⟨w.heap.size, 4, none⟩ = some (.int .i64 c.x) ∧ W.cell? ⟨w.heap.size, 5, none⟩ = some (.int .i64 c.y) ∧ W.cell? ⟨w.heap.size, 6, none⟩ = some (.int .i64 d.x) ∧ W.cell? ⟨w.heap.size, 7, none⟩ = some (.int .i64 d.y)) : Below w.heap.size w W.drew ∧ W.drew.cell? ⟨w.heap.size, 0, none⟩ = some (.int .i64 a.x) ∧ W.drew.cell? ⟨w.heap.size, 1, none⟩ = some (.int .i64 a.y) ∧ W.drew.cell? ⟨w.heap.size, 2, none⟩ = some (.int .i64 b.x) ∧ W.drew.cell? ⟨w.heap.size, 3, none⟩ = some (.int .i64 b.y) ∧ W.drew.cell? ⟨w.heap.size, 4, none⟩ = some (.int .i64 c.x) ∧ W.drew.cell? ⟨w.heap.size, 5, none⟩ = some (.int .i64 c.y) ∧ W.drew.cell? ⟨w.heap.size, 6, none⟩ = some (.int .i64 d.x) ∧ W.drew.cell? ⟨w.heap.size, 7, none⟩ = some (.int .i64 d.y) := s9_keep (Below.refl _ _).drew h
theorem sg_keep {w W W' : World} {g1 g2 g3 g4 : Nat} {a b c d : Pt} (l : Below W.heap.size W W') (h : Below w.heap.size w W ∧ W.cell? ⟨g1, 0, none⟩ = some (.int .i64 a.x) ∧ W.cell? ⟨g1, 1, none⟩ = some (.int .i64 a.y) ∧ W.cell? ⟨g2, 0, none⟩ = some (.int .i64 b.x) ∧ W.cell? ⟨g2, 1, none⟩ = some (.int .i64 b.y) ∧ W.cell? ⟨g3, 0, none⟩ = some (.int .i64 c.x) ∧ W.cell? ⟨g3, 1, none⟩ = some (.int .i64 c.y) ∧ W.cell? ⟨g4, 0, none⟩ = some (.int .i64 d.x) ∧ W.cell? ⟨g4, 1, none⟩ = some (.int .i64 d.y)) : Below w.heap.size w W' ∧ W'.cell? ⟨g1, 0, none⟩ = some (.int .i64 a.x) ∧ W'.cell? ⟨g1, 1, none⟩ = some (.int .i64 a.y) ∧ W'.cell? ⟨g2, 0, none⟩ = some (.int .i64 b.x) ∧ W'.cell? ⟨g2, 1, none⟩ = some (.int .i64 b.y) ∧ W'.cell? ⟨g3, 0, none⟩ = some (.int .i64 c.x) ∧ W'.cell? ⟨g3, 1, none⟩ = some (.int .i64 c.y) ∧ W'.cell? ⟨g4, 0, none⟩ = some (.int .i64 d.x) ∧ W'.cell? ⟨g4, 1, none⟩ = some (.int .i64 d.y) :=
  ⟨below2' h.1 l, kp' l (cell_lt' h.2.1) h.2.1, kp' l (cell_lt' h.2.2.1) h.2.2.1, kp' l (cell_lt' h.2.2.2.1) h.2.2.2.1, kp' l (cell_lt' h.2.2.2.2.1) h.2.2.2.2.1, kp' l (cell_lt' h.2.2.2.2.2.1) h.2.2.2.2.2.1, kp' l (cell_lt' h.2.2.2.2.2.2.1) h.2.2.2.2.2.2.1, kp' l (cell_lt' h.2.2.2.2.2.2.2.1) h.2.2.2.2.2.2.2.1, kp' l (cell_lt' h.2.2.2.2.2.2.2.2) h.2.2.2.2.2.2.2.2⟩
theorem sg_drew {w W : World} {g1 g2 g3 g4 : Nat} {a b c d : Pt} (h : Below w.heap.size w W ∧ W.cell? ⟨g1, 0, none⟩ = some (.int .i64 a.x) ∧ W.cell? ⟨g1, 1, none⟩ = some (.int .i64 a.y) ∧ W.cell? ⟨g2, 0, none⟩ = some (.int .i64 b.x) ∧ W.cell? ⟨g2, 1, none⟩ = some (.int .i64 b.y) ∧ W.cell? ⟨g3, 0, none⟩ = some (.int .i64 c.x) ∧ W.cell? ⟨g3, 1, none⟩ = some (.int .i64 c.y) ∧ W.cell? ⟨g4, 0, none⟩ = some (.int .i64 d.x) ∧ W.cell? ⟨g4, 1, none⟩ = some (.int .i64 d.y)) : Below w.heap.size w W.drew ∧ W.drew.cell? ⟨g1, 0, none⟩ = some (.int .i64 a.x) ∧ W.drew.cell? ⟨g1, 1, none⟩ = some (.int .i64 a.y) ∧ W.drew.cell? ⟨g2, 0, none⟩ = some (.int .i64 b.x) ∧ W.drew.cell? ⟨g2, 1, none⟩ = some (.int .i64 b.y) ∧ W.drew.cell? ⟨g3, 0, none⟩ = some (.int .i64 c.x) ∧ W.drew.cell? ⟨g3, 1, none⟩ = some (.int .i64 c.y) ∧ W.drew.cell? ⟨g4, 0, none⟩ = some (.int .i64 d.x) ∧ W.drew.cell? ⟨g4, 1, none⟩ = some (.int .i64 d.y) := sg_keep (Below.refl _ _).drew h
theorem sg_mk {w W : World} {g1 g2 g3 g4 : Nat} {a b c d : Pt} (h : Below w.heap.size w W ∧ W.cell? ⟨w.heap.size, 0, none⟩ = some (.int .i64 a.x) ∧ W.cell? ⟨w.heap.size, 1, none⟩ = some (.int .i64 a.y) ∧ W.cell? ⟨w.heap.size, 2, none⟩ = some (.int .i64 b.x) ∧ W.cell? ⟨w.heap.size, 3, none⟩ = some (.int .i64 b.y) ∧ W.cell? ⟨w.heap.size, 4, none⟩ = some (.int .i64 c.x) ∧ W.cell? ⟨w.heap.size, 5, none⟩ = some (.int .i64 c.y) ∧ W.cell? ⟨w.heap.size, 6, none⟩ = some (.int .i64 d.x) ∧ W.cell? ⟨w.heap.size, 7, none⟩ = some (.int .i64 d.y)) (k : W.cell? ⟨g1, 0, none⟩ = some (.int .i64 a.x) ∧ W.cell? ⟨g1, 1, none⟩ = some (.int .i64 a.y) ∧ W.cell? ⟨g2, 0, none⟩ = some (.int .i64 b.x) ∧ W.cell? ⟨g2, 1, none⟩ = some (.int .i64 b.y) ∧ W.cell? ⟨g3, 0, none⟩ = some (.int .i64 c.x) ∧ W.cell? ⟨g3, 1, none⟩ = some (.int .i64 c.y) ∧ W.cell? ⟨g4, 0, none⟩ = some (.int .i64 d.x) ∧ W.cell? ⟨g4, 1, none⟩ = some (.int .i64 d.y)) : Below w.heap.size w W ∧ W.cell? ⟨g1, 0, none⟩ = some (.int .i64 a.x) ∧ W.cell? ⟨g1, 1, none⟩ = some (.int .i64 a.y) ∧ W.cell? ⟨g2, 0, none⟩ = some (.int .i64 b.x) ∧ W.cell? ⟨g2, 1, none⟩ = some (.int .i64 b.y) ∧ W.cell? ⟨g3, 0, none⟩ = some (.int .i64 c.x) ∧ W.cell? ⟨g3, 1, none⟩ = some (.int .i64 c.y) ∧ W.cell? ⟨g4, 0, none⟩ = some (.int .i64 d.x) ∧ W.cell? ⟨g4, 1, none⟩ = some (.int .i64 d.y) := ⟨h.1, k⟩
def CutT (w : World) (a b c d : Pt) (u1 u2 u3 u4 : Value) (W : World) : Prop := ∃ g1 g2 g3 g4 : Nat, (u1 = .pointer (some ⟨g1, 0, none⟩) ∧ u2 = .pointer (some ⟨g2, 0, none⟩) ∧ u3 = .pointer (some ⟨g3, 0, none⟩) ∧ u4 = .pointer (some ⟨g4, 0, none⟩)) ∧ Below w.heap.size w W ∧ W.cell? ⟨g1, 0, none⟩ = some (.int .i64 a.x) ∧ W.cell? ⟨g1, 1, none⟩ = some (.int .i64 a.y) ∧ W.cell? ⟨g2, 0, none⟩ = some (.int .i64 b.x) ∧ W.cell? ⟨g2, 1, none⟩ = some (.int .i64 b.y) ∧ W.cell? ⟨g3, 0, none⟩ = some (.int .i64 c.x) ∧ W.cell? ⟨g3, 1, none⟩ = some (.int .i64 c.y) ∧ W.cell? ⟨g4, 0, none⟩ = some (.int .i64 d.x) ∧ W.cell? ⟨g4, 1, none⟩ = some (.int .i64 d.y)
set_option maxRecDepth 100000 in
set_option maxHeartbeats 16000000 in
theorem geomTurns_core (a b c d : Pt) (w : World) : Calls Try.prog 6 #[.agg #[.int .i64 a.x, .int .i64 a.y, .int .i64 b.x, .int .i64 b.y, .int .i64 c.x, .int .i64 c.y, .int .i64 d.x, .int .i64 d.y]] w fun e w' => e = .returned (.bool true) ∧ Below w.heap.size w w' := by
  have k1 := fun W => turn_any a b c W
  have k2 := fun W => meet_any a b c d W
  have k3 := fun W => turn_any b c a W
  have k4 := fun W => turn_any b a c W
  have k5 := fun W => meet_any c d a b W
  have k6 := fun W => meet_any b a c d W
  have k7 := fun W => meet_any a b d c W
  have k8 := fun W => cross_any a b c d W
  have k9 := fun W => on_any a b c W
  have k10 := fun W => on_any b a c W
  have k11 := fun W => gAwake_any W
  rw [turn_rot a b c] at k3
  rw [turn_sw a b c] at k4
  rw [meet_rot a b c d] at k5
  rw [meet_sw a b c d] at k6
  rw [meet_sw2 a b c d] at k7
  rw [on_sw a b c] at k10
  have hxm := fun h => cross_meet (a := a) (b := b) (c := c) (d := d) h
  have tb := turn_bd a b c
  obtain ⟨t, ht⟩ : ∃ t, t = turnI a b c := ⟨_, rfl⟩
  obtain ⟨m, hm⟩ : ∃ m, m = meetB a b c d := ⟨_, rfl⟩
  obtain ⟨x, hx⟩ : ∃ x, x = crossB a b c d := ⟨_, rfl⟩
  obtain ⟨o, ho⟩ : ∃ o, o = onB a b c := ⟨_, rfl⟩
  rw [← ht] at k1 k3 k4 tb
  rw [← hm] at k2 k5 k6 k7 hxm
  rw [← hx] at k8 hxm
  rw [← ho] at k9 k10
  have w1 : IntKind.i64.wrap (-t) = -t := IntWalk.i64_in _ (by omega)
  have w2 : wrap64 (-t) = -t := by rw [wrap64_eq]; omega
  have K1 := Lib.hid k1
  have K2 := Lib.hid k2
  have K3 := Lib.hid k3
  have K4 := Lib.hid k4
  have K5 := Lib.hid k5
  have K6 := Lib.hid k6
  have K7 := Lib.hid k7
  have K8 := Lib.hid k8
  have K9 := Lib.hid k9
  have K10 := Lib.hid k10
  have K11 := Lib.hid k11
  have HXM := Lib.hid hxm
  have HW := Lib.hid (And.intro w1 w2)
  clear k1 k2 k3 k4 k5 k6 k7 k8 k9 k10 k11 ht hm hx ho hxm tb w1 w2
  go_enter Try.func6, Try.ntmps6
  go_upto_region 2 with (fail)
  go_cut [3, 4, 5, 6] (fun u1 u2 u3 u4 W => CutT w a b c d u1 u2 u3 u4 W)
  case first =>
    go_wp2_with fail
    have hSB := s9_start w a b c d
    generalize (w.alloc (.cells #[.int .i64 a.x, .int .i64 a.y, .int .i64 b.x, .int .i64 b.y, .int .i64 c.x, .int .i64 c.y, .int .i64 d.x, .int .i64 d.y] 24)) = B at hSB ⊢
    have SB := Lib.hid hSB
    clear hSB
    go_region_held3 (fun W => Below w.heap.size w W ∧ W.cell? ⟨w.heap.size, 0, none⟩ = some (.int .i64 a.x) ∧ W.cell? ⟨w.heap.size, 1, none⟩ = some (.int .i64 a.y) ∧ W.cell? ⟨w.heap.size, 2, none⟩ = some (.int .i64 b.x) ∧ W.cell? ⟨w.heap.size, 3, none⟩ = some (.int .i64 b.y) ∧ W.cell? ⟨w.heap.size, 4, none⟩ = some (.int .i64 c.x) ∧ W.cell? ⟨w.heap.size, 5, none⟩ = some (.int .i64 c.y) ∧ W.cell? ⟨w.heap.size, 6, none⟩ = some (.int .i64 d.x) ∧ W.cell? ⟨w.heap.size, 7, none⟩ = some (.int .i64 d.y)) (repeat (first | with_reducible assumption | with_reducible exact SB.out | with_reducible refine s9_alloc _ ?_ | with_reducible refine s9_drew ?_)) (fail)
    all_goals go_wp2_with fail
    all_goals go_meet
    all_goals refine ⟨_, _, _, _, ⟨rfl, rfl, rfl, rfl⟩, sg_mk (a := a) (b := b) (c := c) (d := d) ?_ ?_⟩
    all_goals first | (repeat (first | with_reducible assumption | with_reducible exact SB.out | with_reducible refine s9_alloc _ ?_ | with_reducible refine s9_drew ?_); done) | skip
    all_goals (refine ⟨?_, ?_, ?_, ?_, ?_, ?_, ?_, ?_⟩ <;> go_simp)
  case rest =>
    obtain ⟨g1, g2, g3, g4, ⟨rfl, rfl, rfl, rfl⟩, hS⟩ := hcut
    have HS := Lib.hid hS
    obtain ⟨_, c0, c1, c2, c3, c4, c5, c6, c7⟩ := hS
    obtain ⟨w1, w2⟩ := HW.out
    cases x
    · clear HXM
      go_wp2_with fail
      (with_reducible refine (K1.out _).mono ?_); rintro _ w1 ⟨rfl, l⟩
      have hS := sg_keep (w := w) l HS.out
      clear l HS
      have HS := Lib.hid hS
      obtain ⟨_, c0, c1, c2, c3, c4, c5, c6, c7⟩ := hS
      go_wp2_with fail
      (with_reducible refine (K2.out _).mono ?_); rintro _ w2 ⟨rfl, l⟩
      have hS := sg_keep (w := w) l HS.out
      clear l HS
      have HS := Lib.hid hS
      obtain ⟨_, c0, c1, c2, c3, c4, c5, c6, c7⟩ := hS
      clear c0 c1 c2 c3 c4 c5 c6 c7
      go_wp2_with fail
      simp only [List.append]
      refine wp_region_held_drew (S := fun W => Below w.heap.size w W ∧ W.cell? ⟨g1, 0, none⟩ = some (.int .i64 a.x) ∧ W.cell? ⟨g1, 1, none⟩ = some (.int .i64 a.y) ∧ W.cell? ⟨g2, 0, none⟩ = some (.int .i64 b.x) ∧ W.cell? ⟨g2, 1, none⟩ = some (.int .i64 b.y) ∧ W.cell? ⟨g3, 0, none⟩ = some (.int .i64 c.x) ∧ W.cell? ⟨g3, 1, none⟩ = some (.int .i64 c.y) ∧ W.cell? ⟨g4, 0, none⟩ = some (.int .i64 d.x) ∧ W.cell? ⟨g4, 1, none⟩ = some (.int .i64 d.y)) (by kernel_rfl) (sg_drew HS.out) (fun hHeld => ?_)
      refine wpAnyH_take (i := 0) (oi := { dst := some 26, op := Op.load 23 (Operand.tmp 4), type := 23, pos := "outright.go:13", after := #[], guard := none }) (v := ?_) rfl (by kernel_rfl) (by kernel_rfl) (by kernel_rfl) (fun _ _ _ h => h) (Or.inl ⟨by kernel_rfl, ?_⟩) (by with_reducible assumption) ?_
      rotate_left 1
      · (intro w0 hSw; (try dsimp only at hSw); go_simp; (try with_reducible rfl))
      simp only [Act.put]
      refine wpAnyH_take (i := 1) (oi := { dst := some 27, op := Op.load 23 (Operand.tmp 5), type := 23, pos := "outright.go:13", after := #[], guard := none }) (v := ?_) rfl (by kernel_rfl) (by kernel_rfl) (by kernel_rfl) (fun _ _ _ h => h) (Or.inl ⟨by kernel_rfl, ?_⟩) (by with_reducible assumption) ?_
      rotate_left 1
      · (intro w0 hSw; (try dsimp only at hSw); go_simp; (try with_reducible rfl))
      simp only [Act.put]
      refine wpAnyH_take (i := 2) (oi := { dst := some 28, op := Op.load 23 (Operand.tmp 3), type := 23, pos := "outright.go:13", after := #[], guard := none }) (v := ?_) rfl (by kernel_rfl) (by kernel_rfl) (by kernel_rfl) (fun _ _ _ h => h) (Or.inl ⟨by kernel_rfl, ?_⟩) (by with_reducible assumption) ?_
      rotate_left 1
      · (intro w0 hSw; (try dsimp only at hSw); go_simp; (try with_reducible rfl))
      simp only [Act.put]
      refine wpAnyH_take (i := 4) (oi := { dst := some 30, op := Op.move (Operand.tmp 7), type := 3, pos := "outright.go:13", after := #[], guard := none }) (v := ?_) rfl (by kernel_rfl) (by kernel_rfl) (by kernel_rfl) (fun _ _ _ h => h) (Or.inl ⟨by kernel_rfl, ?_⟩) (by with_reducible assumption) ?_
      rotate_left 1
      · (intro w0 hSw; (try dsimp only at hSw); go_simp; (try with_reducible rfl))
      simp only [Act.put]
      refine wpAnyH_ready (rs := [3]) (by kernel_rfl) (by simp) ?_
      refine AllReadyH.cons (o := { dst := some 29, op := Op.call { callee := Callee.value (Operand.func 14), args := #[Operand.tmp 26, Operand.tmp 27, Operand.tmp 28], argTypes := #[23, 23, 23] }, type := 3, pos := "outright.go:13", after := #[{ on := 0, ground := Ground.data }, { on := 1, ground := Ground.data }, { on := 2, ground := Ground.data }], guard := none }) rfl (fun K hK => ?_) AllReadyH.nil
      go_simp
      go_wp2_with (go_at_call 14; (with_reducible refine (K3.out _).mono ?_); rintro e w' ⟨rfl, l1⟩; have hS := sg_keep (w := w) l1 (by with_reducible first | assumption | exact HS.out | exact sg_drew HS.out | exact sg_drew (by assumption)); clear l1)
      refine hK.out _ _ (by with_reducible assumption) (fun hHeld => ?_)
      clear hK K
      refine wpAnyH_take (i := 5) (oi := { dst := some 31, op := Op.binOp BinOp.eql 3 (Operand.tmp 29) (Operand.tmp 30) 3, type := 4, pos := "outright.go:13", after := #[{ on := 3, ground := Ground.data }, { on := 4, ground := Ground.data }], guard := none }) (v := ?_) rfl (by kernel_rfl) (by kernel_rfl) (by kernel_rfl) (fun _ _ _ h => h) (Or.inl ⟨by kernel_rfl, ?_⟩) (by with_reducible assumption) ?_
      rotate_left 1
      · (intro w0 hSw; (try dsimp only at hSw); go_simp; (try with_reducible rfl))
      simp only [Act.put]
      refine wpAnyH_take (i := 6) (oi := { dst := some 32, op := Op.move (Operand.tmp 31), type := 4, pos := "outright.go:13", after := #[{ on := 5, ground := Ground.data }, { on := 3, ground := Ground.chain }], guard := none }) (v := ?_) rfl (by kernel_rfl) (by kernel_rfl) (by kernel_rfl) (fun _ _ _ h => h) (Or.inl ⟨by kernel_rfl, ?_⟩) (by with_reducible assumption) ?_
      rotate_left 1
      · (intro w0 hSw; (try dsimp only at hSw); go_simp; (try with_reducible rfl))
      simp only [Act.put]
      refine wpAnyH_take (i := 7) (oi := { dst := some 33, op := Op.load 23 (Operand.tmp 4), type := 23, pos := "outright.go:13", after := #[{ on := 6, ground := Ground.guard }], guard := some (6, true) }) (v := ?_) rfl (by kernel_rfl) (by kernel_rfl) (by kernel_rfl) (fun _ _ _ h => h) (Or.inl ⟨by kernel_rfl, ?_⟩) (by with_reducible assumption) ?_
      rotate_left 1
      · (intro w0 hSw; (try dsimp only at hSw); go_simp; (try with_reducible rfl))
      simp only [Act.put]
      refine wpAnyH_take (i := 8) (oi := { dst := some 34, op := Op.load 23 (Operand.tmp 3), type := 23, pos := "outright.go:13", after := #[{ on := 6, ground := Ground.guard }], guard := some (6, true) }) (v := ?_) rfl (by kernel_rfl) (by kernel_rfl) (by kernel_rfl) (fun _ _ _ h => h) (Or.inl ⟨by kernel_rfl, ?_⟩) (by with_reducible assumption) ?_
      rotate_left 1
      · (intro w0 hSw; (try dsimp only at hSw); go_simp; (try with_reducible rfl))
      simp only [Act.put]
      refine wpAnyH_take (i := 9) (oi := { dst := some 35, op := Op.load 23 (Operand.tmp 5), type := 23, pos := "outright.go:13", after := #[{ on := 6, ground := Ground.guard }], guard := some (6, true) }) (v := ?_) rfl (by kernel_rfl) (by kernel_rfl) (by kernel_rfl) (fun _ _ _ h => h) (Or.inl ⟨by kernel_rfl, ?_⟩) (by with_reducible assumption) ?_
      rotate_left 1
      · (intro w0 hSw; (try dsimp only at hSw); go_simp; (try with_reducible rfl))
      simp only [Act.put]
      refine wpAnyH_take (i := 11) (oi := { dst := some 37, op := Op.move (Operand.tmp 7), type := 3, pos := "outright.go:13", after := #[{ on := 6, ground := Ground.guard }], guard := some (6, true) }) (v := ?_) rfl (by kernel_rfl) (by kernel_rfl) (by kernel_rfl) (fun _ _ _ h => h) (Or.inl ⟨by kernel_rfl, ?_⟩) (by with_reducible assumption) ?_
      rotate_left 1
      · (intro w0 hSw; (try dsimp only at hSw); go_simp; (try with_reducible rfl))
      simp only [Act.put]
      refine wpAnyH_take (i := 12) (oi := { dst := some 38, op := Op.unOp UnOp.neg 3 (Operand.tmp 37), type := 3, pos := "outright.go:13", after := #[{ on := 11, ground := Ground.data }, { on := 6, ground := Ground.guard }], guard := some (6, true) }) (v := ?_) rfl (by kernel_rfl) (by kernel_rfl) (by kernel_rfl) (fun _ _ _ h => h) (Or.inl ⟨by kernel_rfl, ?_⟩) (by with_reducible assumption) ?_
      rotate_left 1
      · (intro w0 hSw; (try dsimp only at hSw); go_simp; (try with_reducible rfl))
      simp only [Act.put]
      refine wpAnyH_ready (rs := [10]) (by kernel_rfl) (by simp) ?_
      refine AllReadyH.cons (o := { dst := some 36, op := Op.call { callee := Callee.value (Operand.func 14), args := #[Operand.tmp 33, Operand.tmp 34, Operand.tmp 35], argTypes := #[23, 23, 23] }, type := 3, pos := "outright.go:13", after := #[{ on := 7, ground := Ground.data }, { on := 8, ground := Ground.data }, { on := 9, ground := Ground.data }, { on := 6, ground := Ground.chain }, { on := 6, ground := Ground.guard }], guard := some (6, true) }) rfl (fun K hK => ?_) AllReadyH.nil
      go_simp
      go_wp2_with (go_at_call 14; (with_reducible refine (K4.out _).mono ?_); rintro e w' ⟨rfl, l1⟩; have hS := sg_keep (w := w) l1 (by with_reducible first | assumption | exact HS.out | exact sg_drew HS.out | exact sg_drew (by assumption)); clear l1)
      refine hK.out _ _ (by with_reducible assumption) (fun hHeld => ?_)
      clear hK K
      refine wpAnyH_take (i := 13) (oi := { dst := some 39, op := Op.binOp BinOp.eql 3 (Operand.tmp 36) (Operand.tmp 38) 3, type := 4, pos := "outright.go:13", after := #[{ on := 10, ground := Ground.data }, { on := 12, ground := Ground.data }, { on := 6, ground := Ground.guard }], guard := some (6, true) }) (v := ?_) rfl (by kernel_rfl) (by kernel_rfl) (by kernel_rfl) (fun _ _ _ h => h) (Or.inl ⟨by kernel_rfl, ?_⟩) (by with_reducible assumption) ?_
      rotate_left 1
      · (intro w0 hSw; (try dsimp only at hSw); go_simp; (try with_reducible rfl))
      simp only [Act.put]
      refine wpAnyH_take (i := 14) (oi := { dst := some 40, op := Op.pick (Operand.tmp 32) (Operand.tmp 39) (Operand.const (Value.bool false)), type := 4, pos := "outright.go:13", after := #[{ on := 6, ground := Ground.data }, { on := 13, ground := Ground.data }], guard := none }) (v := ?_) rfl (by kernel_rfl) (by kernel_rfl) (by kernel_rfl) (fun _ _ _ h => h) (Or.inl ⟨by kernel_rfl, ?_⟩) (by with_reducible assumption) ?_
      rotate_left 1
      · (intro w0 hSw; (try dsimp only at hSw); go_simp; (try with_reducible rfl))
      simp only [Act.put]
      refine wpAnyH_take (i := 15) (oi := { dst := some 41, op := Op.move (Operand.tmp 40), type := 4, pos := "outright.go:13", after := #[{ on := 14, ground := Ground.data }, { on := 10, ground := Ground.chain }], guard := none }) (v := ?_) rfl (by kernel_rfl) (by kernel_rfl) (by kernel_rfl) (fun _ _ _ h => h) (Or.inl ⟨by kernel_rfl, ?_⟩) (by with_reducible assumption) ?_
      rotate_left 1
      · (intro w0 hSw; (try dsimp only at hSw); go_simp; (try with_reducible rfl))
      simp only [Act.put]
      refine wpAnyH_take (i := 16) (oi := { dst := some 42, op := Op.load 23 (Operand.tmp 5), type := 23, pos := "outright.go:13", after := #[{ on := 15, ground := Ground.guard }], guard := some (15, true) }) (v := ?_) rfl (by kernel_rfl) (by kernel_rfl) (by kernel_rfl) (fun _ _ _ h => h) (Or.inl ⟨by kernel_rfl, ?_⟩) (by with_reducible assumption) ?_
      rotate_left 1
      · (intro w0 hSw; (try dsimp only at hSw); go_simp; (try with_reducible rfl))
      simp only [Act.put]
      refine wpAnyH_take (i := 17) (oi := { dst := some 43, op := Op.load 23 (Operand.tmp 6), type := 23, pos := "outright.go:13", after := #[{ on := 15, ground := Ground.guard }], guard := some (15, true) }) (v := ?_) rfl (by kernel_rfl) (by kernel_rfl) (by kernel_rfl) (fun _ _ _ h => h) (Or.inl ⟨by kernel_rfl, ?_⟩) (by with_reducible assumption) ?_
      rotate_left 1
      · (intro w0 hSw; (try dsimp only at hSw); go_simp; (try with_reducible rfl))
      simp only [Act.put]
      refine wpAnyH_take (i := 18) (oi := { dst := some 44, op := Op.load 23 (Operand.tmp 3), type := 23, pos := "outright.go:13", after := #[{ on := 15, ground := Ground.guard }], guard := some (15, true) }) (v := ?_) rfl (by kernel_rfl) (by kernel_rfl) (by kernel_rfl) (fun _ _ _ h => h) (Or.inl ⟨by kernel_rfl, ?_⟩) (by with_reducible assumption) ?_
      rotate_left 1
      · (intro w0 hSw; (try dsimp only at hSw); go_simp; (try with_reducible rfl))
      simp only [Act.put]
      refine wpAnyH_take (i := 19) (oi := { dst := some 45, op := Op.load 23 (Operand.tmp 4), type := 23, pos := "outright.go:13", after := #[{ on := 15, ground := Ground.guard }], guard := some (15, true) }) (v := ?_) rfl (by kernel_rfl) (by kernel_rfl) (by kernel_rfl) (fun _ _ _ h => h) (Or.inl ⟨by kernel_rfl, ?_⟩) (by with_reducible assumption) ?_
      rotate_left 1
      · (intro w0 hSw; (try dsimp only at hSw); go_simp; (try with_reducible rfl))
      simp only [Act.put]
      refine wpAnyH_take (i := 21) (oi := { dst := some 47, op := Op.move (Operand.tmp 8), type := 4, pos := "outright.go:13", after := #[{ on := 15, ground := Ground.guard }], guard := some (15, true) }) (v := ?_) rfl (by kernel_rfl) (by kernel_rfl) (by kernel_rfl) (fun _ _ _ h => h) (Or.inl ⟨by kernel_rfl, ?_⟩) (by with_reducible assumption) ?_
      rotate_left 1
      · (intro w0 hSw; (try dsimp only at hSw); go_simp; (try with_reducible rfl))
      simp only [Act.put]
      refine wpAnyH_ready (rs := [20]) (by kernel_rfl) (by simp) ?_
      refine AllReadyH.cons (o := { dst := some 46, op := Op.call { callee := Callee.value (Operand.func 17), args := #[Operand.tmp 42, Operand.tmp 43, Operand.tmp 44, Operand.tmp 45], argTypes := #[23, 23, 23, 23] }, type := 4, pos := "outright.go:13", after := #[{ on := 16, ground := Ground.data }, { on := 17, ground := Ground.data }, { on := 18, ground := Ground.data }, { on := 19, ground := Ground.data }, { on := 15, ground := Ground.chain }, { on := 15, ground := Ground.guard }], guard := some (15, true) }) rfl (fun K hK => ?_) AllReadyH.nil
      go_simp
      go_wp2_with (go_at_call 17; (with_reducible refine (K5.out _).mono ?_); rintro e w' ⟨rfl, l1⟩; have hS := sg_keep (w := w) l1 (by with_reducible first | assumption | exact HS.out | exact sg_drew HS.out | exact sg_drew (by assumption)); clear l1)
      refine hK.out _ _ (by with_reducible assumption) (fun hHeld => ?_)
      clear hK K
      refine wpAnyH_take (i := 22) (oi := { dst := some 48, op := Op.binOp BinOp.eql 4 (Operand.tmp 46) (Operand.tmp 47) 4, type := 4, pos := "outright.go:13", after := #[{ on := 20, ground := Ground.data }, { on := 21, ground := Ground.data }, { on := 15, ground := Ground.guard }], guard := some (15, true) }) (v := ?_) rfl (by kernel_rfl) (by kernel_rfl) (by kernel_rfl) (fun _ _ _ h => h) (Or.inl ⟨by kernel_rfl, ?_⟩) (by with_reducible assumption) ?_
      rotate_left 1
      · (intro w0 hSw; (try dsimp only at hSw); go_simp; (try with_reducible rfl))
      simp only [Act.put]
      refine wpAnyH_take (i := 23) (oi := { dst := some 49, op := Op.pick (Operand.tmp 41) (Operand.tmp 48) (Operand.const (Value.bool false)), type := 4, pos := "outright.go:13", after := #[{ on := 15, ground := Ground.data }, { on := 22, ground := Ground.data }], guard := none }) (v := ?_) rfl (by kernel_rfl) (by kernel_rfl) (by kernel_rfl) (fun _ _ _ h => h) (Or.inl ⟨by kernel_rfl, ?_⟩) (by with_reducible assumption) ?_
      rotate_left 1
      · (intro w0 hSw; (try dsimp only at hSw); go_simp; (try with_reducible rfl))
      simp only [Act.put]
      refine wpAnyH_take (i := 24) (oi := { dst := some 50, op := Op.move (Operand.tmp 49), type := 4, pos := "outright.go:13", after := #[{ on := 23, ground := Ground.data }, { on := 20, ground := Ground.chain }], guard := none }) (v := ?_) rfl (by kernel_rfl) (by kernel_rfl) (by kernel_rfl) (fun _ _ _ h => h) (Or.inl ⟨by kernel_rfl, ?_⟩) (by with_reducible assumption) ?_
      rotate_left 1
      · (intro w0 hSw; (try dsimp only at hSw); go_simp; (try with_reducible rfl))
      simp only [Act.put]
      refine wpAnyH_take (i := 25) (oi := { dst := some 51, op := Op.load 23 (Operand.tmp 4), type := 23, pos := "outright.go:13", after := #[{ on := 24, ground := Ground.guard }], guard := some (24, true) }) (v := ?_) rfl (by kernel_rfl) (by kernel_rfl) (by kernel_rfl) (fun _ _ _ h => h) (Or.inl ⟨by kernel_rfl, ?_⟩) (by with_reducible assumption) ?_
      rotate_left 1
      · (intro w0 hSw; (try dsimp only at hSw); go_simp; (try with_reducible rfl))
      simp only [Act.put]
      refine wpAnyH_take (i := 26) (oi := { dst := some 52, op := Op.load 23 (Operand.tmp 3), type := 23, pos := "outright.go:13", after := #[{ on := 24, ground := Ground.guard }], guard := some (24, true) }) (v := ?_) rfl (by kernel_rfl) (by kernel_rfl) (by kernel_rfl) (fun _ _ _ h => h) (Or.inl ⟨by kernel_rfl, ?_⟩) (by with_reducible assumption) ?_
      rotate_left 1
      · (intro w0 hSw; (try dsimp only at hSw); go_simp; (try with_reducible rfl))
      simp only [Act.put]
      refine wpAnyH_take (i := 27) (oi := { dst := some 53, op := Op.load 23 (Operand.tmp 5), type := 23, pos := "outright.go:13", after := #[{ on := 24, ground := Ground.guard }], guard := some (24, true) }) (v := ?_) rfl (by kernel_rfl) (by kernel_rfl) (by kernel_rfl) (fun _ _ _ h => h) (Or.inl ⟨by kernel_rfl, ?_⟩) (by with_reducible assumption) ?_
      rotate_left 1
      · (intro w0 hSw; (try dsimp only at hSw); go_simp; (try with_reducible rfl))
      simp only [Act.put]
      refine wpAnyH_take (i := 28) (oi := { dst := some 54, op := Op.load 23 (Operand.tmp 6), type := 23, pos := "outright.go:13", after := #[{ on := 24, ground := Ground.guard }], guard := some (24, true) }) (v := ?_) rfl (by kernel_rfl) (by kernel_rfl) (by kernel_rfl) (fun _ _ _ h => h) (Or.inl ⟨by kernel_rfl, ?_⟩) (by with_reducible assumption) ?_
      rotate_left 1
      · (intro w0 hSw; (try dsimp only at hSw); go_simp; (try with_reducible rfl))
      simp only [Act.put]
      refine wpAnyH_take (i := 30) (oi := { dst := some 56, op := Op.move (Operand.tmp 8), type := 4, pos := "outright.go:13", after := #[{ on := 24, ground := Ground.guard }], guard := some (24, true) }) (v := ?_) rfl (by kernel_rfl) (by kernel_rfl) (by kernel_rfl) (fun _ _ _ h => h) (Or.inl ⟨by kernel_rfl, ?_⟩) (by with_reducible assumption) ?_
      rotate_left 1
      · (intro w0 hSw; (try dsimp only at hSw); go_simp; (try with_reducible rfl))
      simp only [Act.put]
      refine wpAnyH_ready (rs := [29]) (by kernel_rfl) (by simp) ?_
      refine AllReadyH.cons (o := { dst := some 55, op := Op.call { callee := Callee.value (Operand.func 17), args := #[Operand.tmp 51, Operand.tmp 52, Operand.tmp 53, Operand.tmp 54], argTypes := #[23, 23, 23, 23] }, type := 4, pos := "outright.go:13", after := #[{ on := 25, ground := Ground.data }, { on := 26, ground := Ground.data }, { on := 27, ground := Ground.data }, { on := 28, ground := Ground.data }, { on := 24, ground := Ground.chain }, { on := 24, ground := Ground.guard }], guard := some (24, true) }) rfl (fun K hK => ?_) AllReadyH.nil
      go_simp
      go_wp2_with (go_at_call 17; (with_reducible refine (K6.out _).mono ?_); rintro e w' ⟨rfl, l1⟩; have hS := sg_keep (w := w) l1 (by with_reducible first | assumption | exact HS.out | exact sg_drew HS.out | exact sg_drew (by assumption)); clear l1)
      refine hK.out _ _ (by with_reducible assumption) (fun hHeld => ?_)
      clear hK K
      refine wpAnyH_take (i := 31) (oi := { dst := some 57, op := Op.binOp BinOp.eql 4 (Operand.tmp 55) (Operand.tmp 56) 4, type := 4, pos := "outright.go:13", after := #[{ on := 29, ground := Ground.data }, { on := 30, ground := Ground.data }, { on := 24, ground := Ground.guard }], guard := some (24, true) }) (v := ?_) rfl (by kernel_rfl) (by kernel_rfl) (by kernel_rfl) (fun _ _ _ h => h) (Or.inl ⟨by kernel_rfl, ?_⟩) (by with_reducible assumption) ?_
      rotate_left 1
      · (intro w0 hSw; (try dsimp only at hSw); go_simp; (try with_reducible rfl))
      simp only [Act.put]
      refine wpAnyH_take (i := 32) (oi := { dst := some 58, op := Op.pick (Operand.tmp 50) (Operand.tmp 57) (Operand.const (Value.bool false)), type := 4, pos := "outright.go:13", after := #[{ on := 24, ground := Ground.data }, { on := 31, ground := Ground.data }], guard := none }) (v := ?_) rfl (by kernel_rfl) (by kernel_rfl) (by kernel_rfl) (fun _ _ _ h => h) (Or.inl ⟨by kernel_rfl, ?_⟩) (by with_reducible assumption) ?_
      rotate_left 1
      · (intro w0 hSw; (try dsimp only at hSw); go_simp; (try with_reducible rfl))
      simp only [Act.put]
      refine wpAnyH_take (i := 33) (oi := { dst := some 59, op := Op.move (Operand.tmp 58), type := 4, pos := "outright.go:13", after := #[{ on := 32, ground := Ground.data }, { on := 29, ground := Ground.chain }], guard := none }) (v := ?_) rfl (by kernel_rfl) (by kernel_rfl) (by kernel_rfl) (fun _ _ _ h => h) (Or.inl ⟨by kernel_rfl, ?_⟩) (by with_reducible assumption) ?_
      rotate_left 1
      · (intro w0 hSw; (try dsimp only at hSw); go_simp; (try with_reducible rfl))
      simp only [Act.put]
      refine wpAnyH_take (i := 34) (oi := { dst := some 60, op := Op.load 23 (Operand.tmp 3), type := 23, pos := "outright.go:13", after := #[{ on := 33, ground := Ground.guard }], guard := some (33, true) }) (v := ?_) rfl (by kernel_rfl) (by kernel_rfl) (by kernel_rfl) (fun _ _ _ h => h) (Or.inl ⟨by kernel_rfl, ?_⟩) (by with_reducible assumption) ?_
      rotate_left 1
      · (intro w0 hSw; (try dsimp only at hSw); go_simp; (try with_reducible rfl))
      simp only [Act.put]
      refine wpAnyH_take (i := 35) (oi := { dst := some 61, op := Op.load 23 (Operand.tmp 4), type := 23, pos := "outright.go:13", after := #[{ on := 33, ground := Ground.guard }], guard := some (33, true) }) (v := ?_) rfl (by kernel_rfl) (by kernel_rfl) (by kernel_rfl) (fun _ _ _ h => h) (Or.inl ⟨by kernel_rfl, ?_⟩) (by with_reducible assumption) ?_
      rotate_left 1
      · (intro w0 hSw; (try dsimp only at hSw); go_simp; (try with_reducible rfl))
      simp only [Act.put]
      refine wpAnyH_take (i := 36) (oi := { dst := some 62, op := Op.load 23 (Operand.tmp 6), type := 23, pos := "outright.go:13", after := #[{ on := 33, ground := Ground.guard }], guard := some (33, true) }) (v := ?_) rfl (by kernel_rfl) (by kernel_rfl) (by kernel_rfl) (fun _ _ _ h => h) (Or.inl ⟨by kernel_rfl, ?_⟩) (by with_reducible assumption) ?_
      rotate_left 1
      · (intro w0 hSw; (try dsimp only at hSw); go_simp; (try with_reducible rfl))
      simp only [Act.put]
      refine wpAnyH_take (i := 37) (oi := { dst := some 63, op := Op.load 23 (Operand.tmp 5), type := 23, pos := "outright.go:13", after := #[{ on := 33, ground := Ground.guard }], guard := some (33, true) }) (v := ?_) rfl (by kernel_rfl) (by kernel_rfl) (by kernel_rfl) (fun _ _ _ h => h) (Or.inl ⟨by kernel_rfl, ?_⟩) (by with_reducible assumption) ?_
      rotate_left 1
      · (intro w0 hSw; (try dsimp only at hSw); go_simp; (try with_reducible rfl))
      simp only [Act.put]
      refine wpAnyH_take (i := 39) (oi := { dst := some 65, op := Op.move (Operand.tmp 8), type := 4, pos := "outright.go:13", after := #[{ on := 33, ground := Ground.guard }], guard := some (33, true) }) (v := ?_) rfl (by kernel_rfl) (by kernel_rfl) (by kernel_rfl) (fun _ _ _ h => h) (Or.inl ⟨by kernel_rfl, ?_⟩) (by with_reducible assumption) ?_
      rotate_left 1
      · (intro w0 hSw; (try dsimp only at hSw); go_simp; (try with_reducible rfl))
      simp only [Act.put]
      refine wpAnyH_ready (rs := [38]) (by kernel_rfl) (by simp) ?_
      refine AllReadyH.cons (o := { dst := some 64, op := Op.call { callee := Callee.value (Operand.func 17), args := #[Operand.tmp 60, Operand.tmp 61, Operand.tmp 62, Operand.tmp 63], argTypes := #[23, 23, 23, 23] }, type := 4, pos := "outright.go:13", after := #[{ on := 34, ground := Ground.data }, { on := 35, ground := Ground.data }, { on := 36, ground := Ground.data }, { on := 37, ground := Ground.data }, { on := 33, ground := Ground.chain }, { on := 33, ground := Ground.guard }], guard := some (33, true) }) rfl (fun K hK => ?_) AllReadyH.nil
      go_simp
      go_wp2_with (go_at_call 17; (with_reducible refine (K7.out _).mono ?_); rintro e w' ⟨rfl, l1⟩; have hS := sg_keep (w := w) l1 (by with_reducible first | assumption | exact HS.out | exact sg_drew HS.out | exact sg_drew (by assumption)); clear l1)
      refine hK.out _ _ (by with_reducible assumption) (fun hHeld => ?_)
      clear hK K
      refine wpAnyH_take (i := 40) (oi := { dst := some 66, op := Op.binOp BinOp.eql 4 (Operand.tmp 64) (Operand.tmp 65) 4, type := 4, pos := "outright.go:13", after := #[{ on := 38, ground := Ground.data }, { on := 39, ground := Ground.data }, { on := 33, ground := Ground.guard }], guard := some (33, true) }) (v := ?_) rfl (by kernel_rfl) (by kernel_rfl) (by kernel_rfl) (fun _ _ _ h => h) (Or.inl ⟨by kernel_rfl, ?_⟩) (by with_reducible assumption) ?_
      rotate_left 1
      · (intro w0 hSw; (try dsimp only at hSw); go_simp; (try with_reducible rfl))
      simp only [Act.put]
      refine wpAnyH_take (i := 41) (oi := { dst := some 67, op := Op.pick (Operand.tmp 59) (Operand.tmp 66) (Operand.const (Value.bool false)), type := 4, pos := "outright.go:13", after := #[{ on := 33, ground := Ground.data }, { on := 40, ground := Ground.data }], guard := none }) (v := ?_) rfl (by kernel_rfl) (by kernel_rfl) (by kernel_rfl) (fun _ _ _ h => h) (Or.inl ⟨by kernel_rfl, ?_⟩) (by with_reducible assumption) ?_
      rotate_left 1
      · (intro w0 hSw; (try dsimp only at hSw); go_simp; (try with_reducible rfl))
      simp only [Act.put]
      refine wpAnyH_take (i := 42) (oi := { dst := some 68, op := Op.move (Operand.tmp 67), type := 4, pos := "outright.go:13", after := #[{ on := 41, ground := Ground.data }, { on := 38, ground := Ground.chain }], guard := none }) (v := ?_) rfl (by kernel_rfl) (by kernel_rfl) (by kernel_rfl) (fun _ _ _ h => h) (Or.inl ⟨by kernel_rfl, ?_⟩) (by with_reducible assumption) ?_
      rotate_left 1
      · (intro w0 hSw; (try dsimp only at hSw); go_simp; (try with_reducible rfl))
      simp only [Act.put]
      refine wpAnyH_take (i := 43) (oi := { dst := some 69, op := Op.load 23 (Operand.tmp 3), type := 23, pos := "outright.go:13", after := #[{ on := 42, ground := Ground.guard }], guard := some (42, true) }) (v := ?_) rfl (by kernel_rfl) (by kernel_rfl) (by kernel_rfl) (fun _ _ _ h => h) (Or.inl ⟨by kernel_rfl, ?_⟩) (by with_reducible assumption) ?_
      rotate_left 1
      · (intro w0 hSw; (try dsimp only at hSw); go_simp; (try with_reducible rfl))
      simp only [Act.put]
      refine wpAnyH_take (i := 44) (oi := { dst := some 70, op := Op.load 23 (Operand.tmp 4), type := 23, pos := "outright.go:13", after := #[{ on := 42, ground := Ground.guard }], guard := some (42, true) }) (v := ?_) rfl (by kernel_rfl) (by kernel_rfl) (by kernel_rfl) (fun _ _ _ h => h) (Or.inl ⟨by kernel_rfl, ?_⟩) (by with_reducible assumption) ?_
      rotate_left 1
      · (intro w0 hSw; (try dsimp only at hSw); go_simp; (try with_reducible rfl))
      simp only [Act.put]
      refine wpAnyH_take (i := 45) (oi := { dst := some 71, op := Op.load 23 (Operand.tmp 5), type := 23, pos := "outright.go:13", after := #[{ on := 42, ground := Ground.guard }], guard := some (42, true) }) (v := ?_) rfl (by kernel_rfl) (by kernel_rfl) (by kernel_rfl) (fun _ _ _ h => h) (Or.inl ⟨by kernel_rfl, ?_⟩) (by with_reducible assumption) ?_
      rotate_left 1
      · (intro w0 hSw; (try dsimp only at hSw); go_simp; (try with_reducible rfl))
      simp only [Act.put]
      refine wpAnyH_take (i := 46) (oi := { dst := some 72, op := Op.load 23 (Operand.tmp 6), type := 23, pos := "outright.go:13", after := #[{ on := 42, ground := Ground.guard }], guard := some (42, true) }) (v := ?_) rfl (by kernel_rfl) (by kernel_rfl) (by kernel_rfl) (fun _ _ _ h => h) (Or.inl ⟨by kernel_rfl, ?_⟩) (by with_reducible assumption) ?_
      rotate_left 1
      · (intro w0 hSw; (try dsimp only at hSw); go_simp; (try with_reducible rfl))
      simp only [Act.put]
      refine wpAnyH_ready (rs := [47]) (by kernel_rfl) (by simp) ?_
      refine AllReadyH.cons (o := { dst := some 73, op := Op.call { callee := Callee.value (Operand.func 18), args := #[Operand.tmp 69, Operand.tmp 70, Operand.tmp 71, Operand.tmp 72], argTypes := #[23, 23, 23, 23] }, type := 4, pos := "outright.go:13", after := #[{ on := 43, ground := Ground.data }, { on := 44, ground := Ground.data }, { on := 45, ground := Ground.data }, { on := 46, ground := Ground.data }, { on := 42, ground := Ground.chain }, { on := 42, ground := Ground.guard }], guard := some (42, true) }) rfl (fun K hK => ?_) AllReadyH.nil
      go_simp
      go_wp2_with (go_at_call 18; (with_reducible refine (K8.out _).mono ?_); rintro e w' ⟨rfl, l1⟩; have hS := sg_keep (w := w) l1 (by with_reducible first | assumption | exact HS.out | exact sg_drew HS.out | exact sg_drew (by assumption)); clear l1)
      refine hK.out _ _ (by with_reducible assumption) (fun hHeld => ?_)
      clear hK K
      refine wpAnyH_take (i := 48) (oi := { dst := some 74, op := Op.unOp UnOp.not 4 (Operand.tmp 73), type := 4, pos := "outright.go:13", after := #[{ on := 47, ground := Ground.data }, { on := 42, ground := Ground.guard }], guard := some (42, true) }) (v := ?_) rfl (by kernel_rfl) (by kernel_rfl) (by kernel_rfl) (fun _ _ _ h => h) (Or.inl ⟨by kernel_rfl, ?_⟩) (by with_reducible assumption) ?_
      rotate_left 1
      · (intro w0 hSw; (try dsimp only at hSw); go_simp; (try with_reducible rfl))
      simp only [Act.put]
      refine wpAnyH_take (i := 49) (oi := { dst := some 75, op := Op.move (Operand.tmp 74), type := 4, pos := "outright.go:13", after := #[{ on := 48, ground := Ground.data }, { on := 47, ground := Ground.chain }, { on := 42, ground := Ground.guard }], guard := some (42, true) }) (v := ?_) rfl (by kernel_rfl) (by kernel_rfl) (by kernel_rfl) (fun _ _ _ h => h) (Or.inl ⟨by kernel_rfl, ?_⟩) (by with_reducible assumption) ?_
      rotate_left 1
      · (intro w0 hSw; (try dsimp only at hSw); go_simp; (try with_reducible rfl))
      simp only [Act.put]
      refine wpAnyH_take (i := 50) (oi := { dst := some 76, op := Op.move (Operand.tmp 8), type := 4, pos := "outright.go:13", after := #[{ on := 49, ground := Ground.guard }], guard := some (49, false) }) (v := undef) rfl (by kernel_rfl) (by kernel_rfl) (by kernel_rfl) (fun _ _ _ h => h) (Or.inr ⟨by kernel_rfl, rfl⟩) (by with_reducible assumption) ?_
      simp only [Act.put]
      refine wpAnyH_take (i := 51) (oi := { dst := some 77, op := Op.pick (Operand.tmp 75) (Operand.const (Value.bool true)) (Operand.tmp 76), type := 4, pos := "outright.go:13", after := #[{ on := 49, ground := Ground.data }, { on := 50, ground := Ground.data }, { on := 42, ground := Ground.guard }], guard := some (42, true) }) (v := ?_) rfl (by kernel_rfl) (by kernel_rfl) (by kernel_rfl) (fun _ _ _ h => h) (Or.inl ⟨by kernel_rfl, ?_⟩) (by with_reducible assumption) ?_
      rotate_left 1
      · (intro w0 hSw; (try dsimp only at hSw); go_simp; (try with_reducible rfl))
      simp only [Act.put]
      refine wpAnyH_take (i := 52) (oi := { dst := some 78, op := Op.pick (Operand.tmp 68) (Operand.tmp 77) (Operand.const (Value.bool false)), type := 4, pos := "outright.go:13", after := #[{ on := 42, ground := Ground.data }, { on := 51, ground := Ground.data }], guard := none }) (v := ?_) rfl (by kernel_rfl) (by kernel_rfl) (by kernel_rfl) (fun _ _ _ h => h) (Or.inl ⟨by kernel_rfl, ?_⟩) (by with_reducible assumption) ?_
      rotate_left 1
      · (intro w0 hSw; (try dsimp only at hSw); go_simp; (try with_reducible rfl))
      simp only [Act.put]
      refine wpAnyH_take (i := 53) (oi := { dst := some 79, op := Op.move (Operand.tmp 78), type := 4, pos := "outright.go:13", after := #[{ on := 52, ground := Ground.data }, { on := 49, ground := Ground.chain }], guard := none }) (v := ?_) rfl (by kernel_rfl) (by kernel_rfl) (by kernel_rfl) (fun _ _ _ h => h) (Or.inl ⟨by kernel_rfl, ?_⟩) (by with_reducible assumption) ?_
      rotate_left 1
      · (intro w0 hSw; (try dsimp only at hSw); go_simp; (try with_reducible rfl))
      simp only [Act.put]
      refine wpAnyH_take (i := 54) (oi := { dst := some 80, op := Op.load 23 (Operand.tmp 3), type := 23, pos := "outright.go:13", after := #[{ on := 53, ground := Ground.guard }], guard := some (53, true) }) (v := ?_) rfl (by kernel_rfl) (by kernel_rfl) (by kernel_rfl) (fun _ _ _ h => h) (Or.inl ⟨by kernel_rfl, ?_⟩) (by with_reducible assumption) ?_
      rotate_left 1
      · (intro w0 hSw; (try dsimp only at hSw); go_simp; (try with_reducible rfl))
      simp only [Act.put]
      refine wpAnyH_take (i := 55) (oi := { dst := some 81, op := Op.load 23 (Operand.tmp 4), type := 23, pos := "outright.go:13", after := #[{ on := 53, ground := Ground.guard }], guard := some (53, true) }) (v := ?_) rfl (by kernel_rfl) (by kernel_rfl) (by kernel_rfl) (fun _ _ _ h => h) (Or.inl ⟨by kernel_rfl, ?_⟩) (by with_reducible assumption) ?_
      rotate_left 1
      · (intro w0 hSw; (try dsimp only at hSw); go_simp; (try with_reducible rfl))
      simp only [Act.put]
      refine wpAnyH_take (i := 56) (oi := { dst := some 82, op := Op.load 23 (Operand.tmp 5), type := 23, pos := "outright.go:13", after := #[{ on := 53, ground := Ground.guard }], guard := some (53, true) }) (v := ?_) rfl (by kernel_rfl) (by kernel_rfl) (by kernel_rfl) (fun _ _ _ h => h) (Or.inl ⟨by kernel_rfl, ?_⟩) (by with_reducible assumption) ?_
      rotate_left 1
      · (intro w0 hSw; (try dsimp only at hSw); go_simp; (try with_reducible rfl))
      simp only [Act.put]
      refine wpAnyH_take (i := 58) (oi := { dst := some 84, op := Op.load 23 (Operand.tmp 4), type := 23, pos := "outright.go:13", after := #[{ on := 53, ground := Ground.guard }], guard := some (53, true) }) (v := ?_) rfl (by kernel_rfl) (by kernel_rfl) (by kernel_rfl) (fun _ _ _ h => h) (Or.inl ⟨by kernel_rfl, ?_⟩) (by with_reducible assumption) ?_
      rotate_left 1
      · (intro w0 hSw; (try dsimp only at hSw); go_simp; (try with_reducible rfl))
      simp only [Act.put]
      refine wpAnyH_take (i := 59) (oi := { dst := some 85, op := Op.load 23 (Operand.tmp 3), type := 23, pos := "outright.go:13", after := #[{ on := 53, ground := Ground.guard }], guard := some (53, true) }) (v := ?_) rfl (by kernel_rfl) (by kernel_rfl) (by kernel_rfl) (fun _ _ _ h => h) (Or.inl ⟨by kernel_rfl, ?_⟩) (by with_reducible assumption) ?_
      rotate_left 1
      · (intro w0 hSw; (try dsimp only at hSw); go_simp; (try with_reducible rfl))
      simp only [Act.put]
      refine wpAnyH_take (i := 60) (oi := { dst := some 86, op := Op.load 23 (Operand.tmp 5), type := 23, pos := "outright.go:13", after := #[{ on := 53, ground := Ground.guard }], guard := some (53, true) }) (v := ?_) rfl (by kernel_rfl) (by kernel_rfl) (by kernel_rfl) (fun _ _ _ h => h) (Or.inl ⟨by kernel_rfl, ?_⟩) (by with_reducible assumption) ?_
      rotate_left 1
      · (intro w0 hSw; (try dsimp only at hSw); go_simp; (try with_reducible rfl))
      simp only [Act.put]
      refine wpAnyH_ready (rs := [57]) (by kernel_rfl) (by simp) ?_
      refine AllReadyH.cons (o := { dst := some 83, op := Op.call { callee := Callee.value (Operand.func 15), args := #[Operand.tmp 80, Operand.tmp 81, Operand.tmp 82], argTypes := #[23, 23, 23] }, type := 4, pos := "outright.go:13", after := #[{ on := 54, ground := Ground.data }, { on := 55, ground := Ground.data }, { on := 56, ground := Ground.data }, { on := 53, ground := Ground.chain }, { on := 53, ground := Ground.guard }], guard := some (53, true) }) rfl (fun K hK => ?_) AllReadyH.nil
      go_simp
      go_wp2_with (go_at_call 15; (with_reducible refine (K9.out _).mono ?_); rintro e w' ⟨rfl, l1⟩; have hS := sg_keep (w := w) l1 (by with_reducible first | assumption | exact HS.out | exact sg_drew HS.out | exact sg_drew (by assumption)); clear l1)
      refine hK.out _ _ (by with_reducible assumption) (fun hHeld => ?_)
      clear hK K
      refine wpAnyH_ready (rs := [61]) (by kernel_rfl) (by simp) ?_
      refine AllReadyH.cons (o := { dst := some 87, op := Op.call { callee := Callee.value (Operand.func 15), args := #[Operand.tmp 84, Operand.tmp 85, Operand.tmp 86], argTypes := #[23, 23, 23] }, type := 4, pos := "outright.go:13", after := #[{ on := 58, ground := Ground.data }, { on := 59, ground := Ground.data }, { on := 60, ground := Ground.data }, { on := 57, ground := Ground.chain }, { on := 53, ground := Ground.guard }], guard := some (53, true) }) rfl (fun K hK => ?_) AllReadyH.nil
      go_simp
      go_wp2_with (go_at_call 15; (with_reducible refine (K10.out _).mono ?_); rintro e w' ⟨rfl, l1⟩; have hS := sg_keep (w := w) l1 (by with_reducible first | assumption | exact HS.out | exact sg_drew HS.out | exact sg_drew (by assumption)); clear l1)
      refine hK.out _ _ (by with_reducible assumption) (fun hHeld => ?_)
      clear hK K
      refine wpAnyH_take (i := 62) (oi := { dst := some 88, op := Op.binOp BinOp.eql 4 (Operand.tmp 83) (Operand.tmp 87) 4, type := 4, pos := "outright.go:13", after := #[{ on := 57, ground := Ground.data }, { on := 61, ground := Ground.data }, { on := 53, ground := Ground.guard }], guard := some (53, true) }) (v := ?_) rfl (by kernel_rfl) (by kernel_rfl) (by kernel_rfl) (fun _ _ _ h => h) (Or.inl ⟨by kernel_rfl, ?_⟩) (by with_reducible assumption) ?_
      rotate_left 1
      · (intro w0 hSw; (try dsimp only at hSw); go_simp; (try with_reducible rfl))
      simp only [Act.put]
      refine wpAnyH_take (i := 63) (oi := { dst := some 89, op := Op.pick (Operand.tmp 79) (Operand.tmp 88) (Operand.const (Value.bool false)), type := 4, pos := "outright.go:13", after := #[{ on := 53, ground := Ground.data }, { on := 62, ground := Ground.data }], guard := none }) (v := ?_) rfl (by kernel_rfl) (by kernel_rfl) (by kernel_rfl) (fun _ _ _ h => h) (Or.inl ⟨by kernel_rfl, ?_⟩) (by with_reducible assumption) ?_
      rotate_left 1
      · (intro w0 hSw; (try dsimp only at hSw); go_simp; (try with_reducible rfl))
      simp only [Act.put]
      refine wpAnyH_take (i := 64) (oi := { dst := some 90, op := Op.move (Operand.tmp 89), type := 4, pos := "outright.go:13", after := #[{ on := 63, ground := Ground.data }, { on := 61, ground := Ground.chain }], guard := none }) (v := ?_) rfl (by kernel_rfl) (by kernel_rfl) (by kernel_rfl) (fun _ _ _ h => h) (Or.inl ⟨by kernel_rfl, ?_⟩) (by with_reducible assumption) ?_
      rotate_left 1
      · (intro w0 hSw; (try dsimp only at hSw); go_simp; (try with_reducible rfl))
      simp only [Act.put]
      refine wpAnyH_ready (rs := [65]) (by kernel_rfl) (by simp) ?_
      refine AllReadyH.cons (o := { dst := some 91, op := Op.call { callee := Callee.value (Operand.func 19), args := #[], argTypes := #[] }, type := 4, pos := "outright.go:13", after := #[{ on := 64, ground := Ground.chain }, { on := 64, ground := Ground.guard }], guard := some (64, true) }) rfl (fun K hK => ?_) AllReadyH.nil
      go_simp
      go_wp2_with (go_at_call 19; (with_reducible refine (K11.out _).mono ?_); rintro e w' ⟨rfl, l1⟩; have hS := sg_keep (w := w) l1 (by with_reducible first | assumption | exact HS.out | exact sg_drew HS.out | exact sg_drew (by assumption)); clear l1)
      refine hK.out _ _ (by with_reducible assumption) (fun hHeld => ?_)
      clear hK K
      refine wpAnyH_take (i := 66) (oi := { dst := some 92, op := Op.pick (Operand.tmp 90) (Operand.tmp 91) (Operand.const (Value.bool false)), type := 4, pos := "outright.go:13", after := #[{ on := 64, ground := Ground.data }, { on := 65, ground := Ground.data }], guard := none }) (v := ?_) rfl (by kernel_rfl) (by kernel_rfl) (by kernel_rfl) (fun _ _ _ h => h) (Or.inl ⟨by kernel_rfl, ?_⟩) (by with_reducible assumption) ?_
      rotate_left 1
      · (intro w0 hSw; (try dsimp only at hSw); go_simp; (try with_reducible rfl))
      simp only [Act.put]
      refine wpAnyH_ready (rs := [67]) (by kernel_rfl) (by simp) ?_
      refine AllReadyH.cons (o := { dst := some 2, op := Op.assign (Operand.tmp 92), type := 4, pos := "outright.go:13", after := #[{ on := 66, ground := Ground.data }, { on := 65, ground := Ground.chain }, { on := 0, ground := Ground.phase }, { on := 1, ground := Ground.phase }, { on := 2, ground := Ground.phase }, { on := 3, ground := Ground.phase }, { on := 4, ground := Ground.phase }, { on := 5, ground := Ground.phase }, { on := 6, ground := Ground.phase }, { on := 7, ground := Ground.phase }, { on := 8, ground := Ground.phase }, { on := 9, ground := Ground.phase }, { on := 10, ground := Ground.phase }, { on := 11, ground := Ground.phase }, { on := 12, ground := Ground.phase }, { on := 13, ground := Ground.phase }, { on := 14, ground := Ground.phase }, { on := 15, ground := Ground.phase }, { on := 16, ground := Ground.phase }, { on := 17, ground := Ground.phase }, { on := 18, ground := Ground.phase }, { on := 19, ground := Ground.phase }, { on := 20, ground := Ground.phase }, { on := 21, ground := Ground.phase }, { on := 22, ground := Ground.phase }, { on := 23, ground := Ground.phase }, { on := 24, ground := Ground.phase }, { on := 25, ground := Ground.phase }, { on := 26, ground := Ground.phase }, { on := 27, ground := Ground.phase }, { on := 28, ground := Ground.phase }, { on := 29, ground := Ground.phase }, { on := 30, ground := Ground.phase }, { on := 31, ground := Ground.phase }, { on := 32, ground := Ground.phase }, { on := 33, ground := Ground.phase }, { on := 34, ground := Ground.phase }, { on := 35, ground := Ground.phase }, { on := 36, ground := Ground.phase }, { on := 37, ground := Ground.phase }, { on := 38, ground := Ground.phase }, { on := 39, ground := Ground.phase }, { on := 40, ground := Ground.phase }, { on := 41, ground := Ground.phase }, { on := 42, ground := Ground.phase }, { on := 43, ground := Ground.phase }, { on := 44, ground := Ground.phase }, { on := 45, ground := Ground.phase }, { on := 46, ground := Ground.phase }, { on := 47, ground := Ground.phase }, { on := 48, ground := Ground.phase }, { on := 49, ground := Ground.phase }, { on := 50, ground := Ground.phase }, { on := 51, ground := Ground.phase }, { on := 52, ground := Ground.phase }, { on := 53, ground := Ground.phase }, { on := 54, ground := Ground.phase }, { on := 55, ground := Ground.phase }, { on := 56, ground := Ground.phase }, { on := 57, ground := Ground.phase }, { on := 58, ground := Ground.phase }, { on := 59, ground := Ground.phase }, { on := 60, ground := Ground.phase }, { on := 61, ground := Ground.phase }, { on := 62, ground := Ground.phase }, { on := 63, ground := Ground.phase }, { on := 64, ground := Ground.phase }, { on := 65, ground := Ground.phase }, { on := 66, ground := Ground.phase }], guard := none }) rfl (fun K hK => ?_) AllReadyH.nil
      go_simp
      refine hK.out _ _ (by with_reducible assumption) (fun hHeld => ?_)
      clear hK K
      refine wpAnyH_done (by kernel_rfl) ?_ _
      go_wp2
      go_ret
      exact ⟨rfl, by first | exact hS.1 | exact hS.1.drew⟩
    · have hm := HXM.out rfl
      subst hm
      clear HXM
      go_wp2_with fail
      (with_reducible refine (K1.out _).mono ?_); rintro _ w1 ⟨rfl, l⟩
      have hS := sg_keep (w := w) l HS.out
      clear l HS
      have HS := Lib.hid hS
      obtain ⟨_, c0, c1, c2, c3, c4, c5, c6, c7⟩ := hS
      go_wp2_with fail
      (with_reducible refine (K2.out _).mono ?_); rintro _ w2 ⟨rfl, l⟩
      have hS := sg_keep (w := w) l HS.out
      clear l HS
      have HS := Lib.hid hS
      obtain ⟨_, c0, c1, c2, c3, c4, c5, c6, c7⟩ := hS
      clear c0 c1 c2 c3 c4 c5 c6 c7
      go_wp2_with fail
      simp only [List.append]
      go_region_held3 (fun W => Below w.heap.size w W ∧ W.cell? ⟨g1, 0, none⟩ = some (.int .i64 a.x) ∧ W.cell? ⟨g1, 1, none⟩ = some (.int .i64 a.y) ∧ W.cell? ⟨g2, 0, none⟩ = some (.int .i64 b.x) ∧ W.cell? ⟨g2, 1, none⟩ = some (.int .i64 b.y) ∧ W.cell? ⟨g3, 0, none⟩ = some (.int .i64 c.x) ∧ W.cell? ⟨g3, 1, none⟩ = some (.int .i64 c.y) ∧ W.cell? ⟨g4, 0, none⟩ = some (.int .i64 d.x) ∧ W.cell? ⟨g4, 1, none⟩ = some (.int .i64 d.y)) (with_reducible first | assumption | exact HS.out | exact sg_drew HS.out | exact sg_drew (by assumption)) (first
        | (go_at_call 14; (with_reducible refine (K3.out _).mono ?_); rintro e w' ⟨rfl, l1⟩; have hS := sg_keep (w := w) l1 (by with_reducible first | assumption | exact HS.out | exact sg_drew HS.out | exact sg_drew (by assumption)); clear l1)
        | (go_at_call 14; (with_reducible refine (K4.out _).mono ?_); rintro e w' ⟨rfl, l1⟩; have hS := sg_keep (w := w) l1 (by with_reducible first | assumption | exact HS.out | exact sg_drew HS.out | exact sg_drew (by assumption)); clear l1)
        | (go_at_call 17; (with_reducible refine (K5.out _).mono ?_); rintro e w' ⟨rfl, l1⟩; have hS := sg_keep (w := w) l1 (by with_reducible first | assumption | exact HS.out | exact sg_drew HS.out | exact sg_drew (by assumption)); clear l1)
        | (go_at_call 17; (with_reducible refine (K6.out _).mono ?_); rintro e w' ⟨rfl, l1⟩; have hS := sg_keep (w := w) l1 (by with_reducible first | assumption | exact HS.out | exact sg_drew HS.out | exact sg_drew (by assumption)); clear l1)
        | (go_at_call 17; (with_reducible refine (K7.out _).mono ?_); rintro e w' ⟨rfl, l1⟩; have hS := sg_keep (w := w) l1 (by with_reducible first | assumption | exact HS.out | exact sg_drew HS.out | exact sg_drew (by assumption)); clear l1)
        | (go_at_call 18; (with_reducible refine (K8.out _).mono ?_); rintro e w' ⟨rfl, l1⟩; have hS := sg_keep (w := w) l1 (by with_reducible first | assumption | exact HS.out | exact sg_drew HS.out | exact sg_drew (by assumption)); clear l1)
        | (go_at_call 15; (with_reducible refine (K9.out _).mono ?_); rintro e w' ⟨rfl, l1⟩; have hS := sg_keep (w := w) l1 (by with_reducible first | assumption | exact HS.out | exact sg_drew HS.out | exact sg_drew (by assumption)); clear l1)
        | (go_at_call 15; (with_reducible refine (K10.out _).mono ?_); rintro e w' ⟨rfl, l1⟩; have hS := sg_keep (w := w) l1 (by with_reducible first | assumption | exact HS.out | exact sg_drew HS.out | exact sg_drew (by assumption)); clear l1)
        | (go_at_call 19; (with_reducible refine (K11.out _).mono ?_); rintro e w' ⟨rfl, l1⟩; have hS := sg_keep (w := w) l1 (by with_reducible first | assumption | exact HS.out | exact sg_drew HS.out | exact sg_drew (by assumption)); clear l1))
      go_wp2
      go_ret
      exact ⟨rfl, by first | exact hS.1 | exact hS.1.drew⟩
end Go.Proofs.Ytlkdjpidofnhdaa
