/- WideTurns: the walk. -/
import Derived.Test.YtdpgoddhchoefaaWInt
namespace Go.Proofs.Ytdpgoddhchoefaa
open Go.RowKit
set_option linter.unusedVariables false

theorem cell_lt {W : World} {b o : Nat} {v : Value} (h : W.cell? ⟨b, o, none⟩ = some v) : b < W.heap.size := by
  rcases Nat.lt_or_ge b W.heap.size with hlt | hge
  · exact hlt
  · rw [World.cell?, Array.getElem?_eq_none hge] at h
    cases h
/-- A cell that stood below stands. -/
theorem kp {W w' : World} {b o : Nat} {v : Value} (l : Below W.heap.size W w') (h : W.cell? ⟨b, o, none⟩ = some v) : w'.cell? ⟨b, o, none⟩ = some v :=
  (l.cell (p := ⟨b, o, none⟩) (cell_lt h)).trans h
theorem bl {w W w' : World} (h : Below w.heap.size w W) (l : Below W.heap.size W w') : Below w.heap.size w w' := h.trans (l.mono h.size)
theorem kp6 {w W w' : World} {b1 b2 b3 o1 o2 o3 o4 o5 o6 : Nat} {v1 v2 v3 v4 v5 v6 : Value} (l : Below W.heap.size W w') (h : Below w.heap.size w W ∧ W.cell? ⟨b1, o1, none⟩ = some v1 ∧ W.cell? ⟨b1, o2, none⟩ = some v2 ∧ W.cell? ⟨b2, o3, none⟩ = some v3 ∧ W.cell? ⟨b2, o4, none⟩ = some v4 ∧ W.cell? ⟨b3, o5, none⟩ = some v5 ∧ W.cell? ⟨b3, o6, none⟩ = some v6) :
    Below w.heap.size w w' ∧ w'.cell? ⟨b1, o1, none⟩ = some v1 ∧ w'.cell? ⟨b1, o2, none⟩ = some v2 ∧ w'.cell? ⟨b2, o3, none⟩ = some v3 ∧ w'.cell? ⟨b2, o4, none⟩ = some v4 ∧ w'.cell? ⟨b3, o5, none⟩ = some v5 ∧ w'.cell? ⟨b3, o6, none⟩ = some v6 :=
  ⟨bl h.1 l, kp l h.2.1, kp l h.2.2.1, kp l h.2.2.2.1, kp l h.2.2.2.2.1, kp l h.2.2.2.2.2.1, kp l h.2.2.2.2.2.2⟩
theorem boxes3 (w : World) (a1 a2 b1 b2 c1 c2 : Value) (T : Nat) : Below w.heap.size w (((w.alloc (.cells #[a1, a2] T)).alloc (.cells #[b1, b2] T)).alloc (.cells #[c1, c2] T)).drew ∧ (((w.alloc (.cells #[a1, a2] T)).alloc (.cells #[b1, b2] T)).alloc (.cells #[c1, c2] T)).drew.cell? ⟨w.heap.size, 0, none⟩ = some a1 ∧ (((w.alloc (.cells #[a1, a2] T)).alloc (.cells #[b1, b2] T)).alloc (.cells #[c1, c2] T)).drew.cell? ⟨w.heap.size, 1, none⟩ = some a2 ∧ (((w.alloc (.cells #[a1, a2] T)).alloc (.cells #[b1, b2] T)).alloc (.cells #[c1, c2] T)).drew.cell? ⟨w.heap.size + 1, 0, none⟩ = some b1 ∧ (((w.alloc (.cells #[a1, a2] T)).alloc (.cells #[b1, b2] T)).alloc (.cells #[c1, c2] T)).drew.cell? ⟨w.heap.size + 1, 1, none⟩ = some b2 ∧ (((w.alloc (.cells #[a1, a2] T)).alloc (.cells #[b1, b2] T)).alloc (.cells #[c1, c2] T)).drew.cell? ⟨w.heap.size + 1 + 1, 0, none⟩ = some c1 ∧ (((w.alloc (.cells #[a1, a2] T)).alloc (.cells #[b1, b2] T)).alloc (.cells #[c1, c2] T)).drew.cell? ⟨w.heap.size + 1 + 1, 1, none⟩ = some c2 := by
  refine ⟨((((Below.refl _ _).alloc (Nat.le_refl _) _).alloc (by simp) _).alloc (by simp; omega) _).drew, ?_, ?_, ?_, ?_, ?_, ?_⟩ <;> go_simp
set_option maxRecDepth 100000 in
set_option maxHeartbeats 8000000 in
theorem wideTurns_walk (x y z : Int) (w : World) : Calls Try.prog 7 #[.agg #[.int .i64 (hiW x), .int .u64 (loW x)], .agg #[.int .i64 (hiW y), .int .u64 (loW y)], .agg #[.int .i64 (hiW z), .int .u64 (loW z)]] w fun e w' => e = .returned (.bool true) ∧ Below w.heap.size w w' := by
  have k1 := fun W => plus_any x y W
  have k2 := fun W => plus_any y x W
  rw [Int.add_comm y x] at k2
  have k3 := fun W => plus_any (x + y) z W
  have k4 := fun W => plus_any y z W
  have k5 := fun W => plus_any x (y + z) W
  rw [← Int.add_assoc] at k5
  have k6 := fun W => less_any (x + y) y W
  rw [Int.add_sub_cancel] at k6
  have k7 := fun W => turned_any x W
  have k8 := fun W => turned_any (-x) W
  rw [Int.neg_neg] at k8
  have k9 := fun W => plus_any x (-x) W
  rw [Int.add_right_neg, show hiW 0 = 0 by decide, show loW 0 = 0 by decide] at k9
  obtain ⟨d, hd⟩ : ∃ d, d = cmpI (svW y) (svW x) := ⟨_, rfl⟩
  have db := cmpI_bd (svW y) (svW x)
  rw [← hd] at db
  have k10 := fun W => compare_any x y W
  rw [show cmpI (svW x) (svW y) = -d by rw [hd]; unfold cmpI sgnI; (repeat' split) <;> omega] at k10
  have k11 := fun W => compare_any y x W
  rw [← hd] at k11
  have d1 : IntKind.i64.wrap (-d) = -d := by rw [wrap_i64']; omega
  clear hd
  have k12 := fun W => of_any 7 (by unfold In64; omega) W
  have k13 := fun W => sign_any 7 W
  rw [show sgnI (svW 7) = 1 by decide] at k13
  rw [show hiW 7 = 0 by decide, show loW 7 = 7 by decide] at k12 k13
  have H1 := Lib.hid k1
  have H2 := Lib.hid k2
  have H3 := Lib.hid k3
  have H4 := Lib.hid k4
  have H5 := Lib.hid k5
  have H6 := Lib.hid k6
  have H7 := Lib.hid k7
  have H8 := Lib.hid k8
  have H9 := Lib.hid k9
  have H10 := Lib.hid k10
  have H11 := Lib.hid k11
  have H12 := Lib.hid k12
  have H13 := Lib.hid k13
  clear k1 k2 k3 k4 k5 k6 k7 k8 k9 k10 k11 k12 k13
  go_enter Try.func7, Try.ntmps7
  go_wp2
  go_region_held3 (fun W => Below w.heap.size w W ∧ W.cell? ⟨w.heap.size, 0, none⟩ = some (.int .i64 (hiW x)) ∧ W.cell? ⟨w.heap.size, 1, none⟩ = some (.int .u64 (loW x)) ∧ W.cell? ⟨w.heap.size + 1, 0, none⟩ = some (.int .i64 (hiW y)) ∧ W.cell? ⟨w.heap.size + 1, 1, none⟩ = some (.int .u64 (loW y)) ∧ W.cell? ⟨w.heap.size + 1 + 1, 0, none⟩ = some (.int .i64 (hiW z)) ∧ W.cell? ⟨w.heap.size + 1 + 1, 1, none⟩ = some (.int .u64 (loW z))) (first
    | assumption
    | exact boxes3 _ _ _ _ _ _ _ _) (first
    | (go_at_call 16; (with_reducible refine (H1.out _).mono ?_); rintro e w' ⟨rfl, l1⟩; have hS := kp6 l1 (by assumption); clear l1)
    | (go_at_call 16; (with_reducible refine (H2.out _).mono ?_); rintro e w' ⟨rfl, l1⟩; have hS := kp6 l1 (by assumption); clear l1)
    | (go_at_call 16; (with_reducible refine (H3.out _).mono ?_); rintro e w' ⟨rfl, l1⟩; have hS := kp6 l1 (by assumption); clear l1)
    | (go_at_call 16; (with_reducible refine (H4.out _).mono ?_); rintro e w' ⟨rfl, l1⟩; have hS := kp6 l1 (by assumption); clear l1)
    | (go_at_call 16; (with_reducible refine (H5.out _).mono ?_); rintro e w' ⟨rfl, l1⟩; have hS := kp6 l1 (by assumption); clear l1)
    | (go_at_call 16; (with_reducible refine (H9.out _).mono ?_); rintro e w' ⟨rfl, l1⟩; have hS := kp6 l1 (by assumption); clear l1)
    | (go_at_call 18; (with_reducible refine (H6.out _).mono ?_); rintro e w' ⟨rfl, l1⟩; have hS := kp6 l1 (by assumption); clear l1)
    | (go_at_call 20; (with_reducible refine (H7.out _).mono ?_); rintro e w' ⟨rfl, l1⟩; have hS := kp6 l1 (by assumption); clear l1)
    | (go_at_call 20; (with_reducible refine (H8.out _).mono ?_); rintro e w' ⟨rfl, l1⟩; have hS := kp6 l1 (by assumption); clear l1)
    | (go_at_call 21; (with_reducible refine (H10.out _).mono ?_); rintro e w' ⟨rfl, l1⟩; have hS := kp6 l1 (by assumption); clear l1)
    | (go_at_call 21; (with_reducible refine (H11.out _).mono ?_); rintro e w' ⟨rfl, l1⟩; have hS := kp6 l1 (by assumption); clear l1)
    | (go_at_call 29; (with_reducible refine (H12.out _).mono ?_); rintro e w' ⟨rfl, l1⟩; have hS := kp6 l1 (by assumption); clear l1)
    | (go_at_call 23; (with_reducible refine (H13.out _).mono ?_); rintro e w' ⟨rfl, l1⟩; have hS := kp6 l1 (by assumption); clear l1))
  go_wp2
  go_ret
  exact ⟨rfl, by first | exact hS.1 | exact hS.1.drew⟩
end Go.Proofs.Ytdpgoddhchoefaa
