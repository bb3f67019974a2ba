/- WideSpreads: the walk. -/
import Derived.Test.YtdpgoddhchoefaaWAwake
namespace Go.Proofs.Ytdpgoddhchoefaa
open Go.RowKit
set_option linter.unusedVariables false

theorem below2 {w w1 w2 : World} (a : Below w.heap.size w w1) (b : Below w1.heap.size w1 w2) : Below w.heap.size w w2 := a.trans (b.mono a.size)
set_option maxRecDepth 100000 in
set_option maxHeartbeats 1000000 in
theorem wideSpreads_walk (a b c : Int) (w : World) (ha : In64 a) (hb : In64 b) (hc : In64 c) : Calls Try.prog 5 #[.int .i64 a, .int .i64 b, .int .i64 c] w fun e w' => e = .returned (.bool true) ∧ Below w.heap.size w w' := by
  have K1 := Lib.hid (fun W => of_any a ha W)
  have K2 := Lib.hid (fun W => of_any b hb W)
  have K3 := Lib.hid (fun W => plus_any a b W)
  have K9 := Lib.hid (fun W => wAwake_any W)
  by_cases hin : In64 (a + b)
  · have es : svW (a + b) = a + b := sv_in64 hin
    have k4 := fun W => int_yes (a + b) (by rw [es]; exact hin) W
    rw [es] at k4
    have k5 := fun W => mul_any (a + b) c hin hc W
    rw [Int.add_mul] at k5
    have k8 := fun W => plus_any (a * c) (b * c) W
    obtain ⟨p, hp⟩ : ∃ p, p = a * c := ⟨_, rfl⟩
    obtain ⟨q, hq⟩ : ∃ q, q = b * c := ⟨_, rfl⟩
    have k6 := fun W => mul_any a c ha hc W
    have k7 := fun W => mul_any b c hb hc W
    rw [← hp] at k5 k6 k8
    rw [← hq] at k5 k7 k8
    have ws : IntKind.i64.wrap (a + b) = a + b := IntWalk.i64_in _ (by unfold In64 at hin; omega)
    have ws2 : wrap64 (a + b) = a + b := by rw [wrap64_eq]; unfold In64 at hin; omega
    have K4 := Lib.hid k4
    have K5 := Lib.hid k5
    have K6 := Lib.hid k6
    have K7 := Lib.hid k7
    have K8 := Lib.hid k8
    clear k4 k5 k6 k7 k8 hp hq es hin ha hb hc
    go_enter Try.func5, Try.ntmps5
    go_wp2_with fail
    (with_reducible refine (K1.out _).mono ?_); rintro _ w1 ⟨rfl, l1⟩; have L1 := Lib.hid l1; clear l1
    go_wp2_with fail
    (with_reducible refine (K2.out _).mono ?_); rintro _ w2 ⟨rfl, l2⟩; have L2 := Lib.hid (below2 L1.out l2); clear l2
    go_wp2_with fail
    (with_reducible refine (K3.out _).mono ?_); rintro _ w3 ⟨rfl, l3⟩; have L3 := Lib.hid (below2 L2.out l3); clear l3
    go_wp2_with fail
    (with_reducible refine (K4.out _).mono ?_); rintro _ w4 ⟨rfl, l4⟩; have L4 := Lib.hid (below2 L3.out l4); clear l4
    go_wp2_with fail
    (with_reducible refine (K5.out _).mono ?_); rintro _ w5 ⟨rfl, l5⟩; have L5 := Lib.hid (below2 L4.out l5); clear l5
    go_wp2_with fail
    (with_reducible refine (K6.out _).mono ?_); rintro _ w6 ⟨rfl, l6⟩; have L6 := Lib.hid (below2 L5.out l6); clear l6
    go_wp2_with fail
    (with_reducible refine (K7.out _).mono ?_); rintro _ w7 ⟨rfl, l7⟩; have L7 := Lib.hid (below2 L6.out l7); clear l7
    go_wp2_with fail
    (with_reducible refine (K8.out _).mono ?_); rintro _ w8 ⟨rfl, l8⟩; have L8 := Lib.hid (below2 L7.out l8); clear l8
    go_wp2_with fail
    (with_reducible refine (K9.out _).mono ?_); rintro _ w9 ⟨rfl, l9⟩; have L9 := Lib.hid (below2 L8.out l9); clear l9
    go_wp2
    go_ret
    exact ⟨rfl, L9.out⟩
  · have es : svW (a + b) = a + b := by unfold In64 at ha hb; exact sv_small _ (by omega) (by omega)
    have K4 := Lib.hid (fun W => int_no (a + b) (by rw [es]; exact hin) W)
    have hor : (0 < a ∧ 0 < b) ∨ (a < 0 ∧ b < 0) := by unfold In64 at ha hb hin; omega
    clear es hin ha hb hc
    rcases hor with ⟨h1, h2⟩ | ⟨h1, h2⟩
    · go_enter Try.func5, Try.ntmps5
      go_wp2_with fail
      (with_reducible refine (K1.out _).mono ?_); rintro _ w1 ⟨rfl, l1⟩; have L1 := Lib.hid l1; clear l1
      go_wp2_with fail
      (with_reducible refine (K2.out _).mono ?_); rintro _ w2 ⟨rfl, l2⟩; have L2 := Lib.hid (below2 L1.out l2); clear l2
      go_wp2_with fail
      (with_reducible refine (K3.out _).mono ?_); rintro _ w3 ⟨rfl, l3⟩; have L3 := Lib.hid (below2 L2.out l3); clear l3
      go_wp2_with fail
      (with_reducible refine (K4.out _).mono ?_); rintro _ w4 ⟨rfl, l4⟩; have L4 := Lib.hid (below2 L3.out l4); clear l4
      go_wp2_with fail
      (with_reducible refine (K9.out _).mono ?_); rintro _ w9 ⟨rfl, l9⟩; have L9 := Lib.hid (below2 L4.out l9); clear l9
      go_wp2
      go_ret
      exact ⟨rfl, L9.out⟩
    · have h3 : ¬ 0 < a := by omega
      go_enter Try.func5, Try.ntmps5
      go_wp2_with fail
      (with_reducible refine (K1.out _).mono ?_); rintro _ w1 ⟨rfl, l1⟩; have L1 := Lib.hid l1; clear l1
      go_wp2_with fail
      (with_reducible refine (K2.out _).mono ?_); rintro _ w2 ⟨rfl, l2⟩; have L2 := Lib.hid (below2 L1.out l2); clear l2
      go_wp2_with fail
      (with_reducible refine (K3.out _).mono ?_); rintro _ w3 ⟨rfl, l3⟩; have L3 := Lib.hid (below2 L2.out l3); clear l3
      go_wp2_with fail
      (with_reducible refine (K4.out _).mono ?_); rintro _ w4 ⟨rfl, l4⟩; have L4 := Lib.hid (below2 L3.out l4); clear l4
      go_wp2_with fail
      (with_reducible refine (K9.out _).mono ?_); rintro _ w9 ⟨rfl, l9⟩; have L9 := Lib.hid (below2 L4.out l9); clear l9
      go_wp2
      go_ret
      exact ⟨rfl, L9.out⟩
end Go.Proofs.Ytdpgoddhchoefaa
