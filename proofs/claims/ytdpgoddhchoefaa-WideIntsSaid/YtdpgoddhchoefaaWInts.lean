/- WideInts: the walk. -/
import Derived.Test.YtdpgoddhchoefaaWSpreads
namespace Go.Proofs.Ytdpgoddhchoefaa
open Go.RowKit
set_option linter.unusedVariables false

theorem kp2 {w W w' : World} {b1 o1 o2 : Nat} {v1 v2 : Value} (l : Below W.heap.size W w') (h : Below w.heap.size w W ∧ W.cell? ⟨b1, o1, none⟩ = some v1 ∧ W.cell? ⟨b1, o2, none⟩ = some v2) :
    Below w.heap.size w w' ∧ w'.cell? ⟨b1, o1, none⟩ = some v1 ∧ w'.cell? ⟨b1, o2, none⟩ = some v2 := by
  have hlt : ∀ {b o : Nat} {v : Value}, W.cell? ⟨b, o, none⟩ = some v → b < W.heap.size := by
    intro b o v h
    rcases Nat.lt_or_ge b W.heap.size with hlt | hge
    · exact hlt
    · rw [World.cell?, Array.getElem?_eq_none hge] at h
      cases h
  exact ⟨h.1.trans (l.mono h.1.size), (l.cell (p := ⟨b1, o1, none⟩) (hlt h.2.1)).trans h.2.1, (l.cell (p := ⟨b1, o2, none⟩) (hlt h.2.2)).trans h.2.2⟩
set_option maxRecDepth 100000 in
set_option maxHeartbeats 2000000 in
theorem wideInts_walk (x : Int) (w : World) : Calls Try.prog 6 #[.agg #[.int .i64 (hiW x), .int .u64 (loW x)]] w fun e w' => e = .returned (.bool true) ∧ Below w.heap.size w w' := by
  have H9 := Lib.hid (fun W => wAwake_any W)
  by_cases hin : In64 (svW x)
  · obtain ⟨e1, e2, e3⟩ := hin.sv
    have H1 := Lib.hid (fun W => int_yes x hin W)
    have k2 := fun W => of_any (svW x) hin W
    rw [e2, e3] at k2
    have H2 := Lib.hid k2
    have H3 := Lib.hid (fun W => text_any x W)
    have k4 := fun W => less_any x x W
    rw [Int.sub_self] at k4
    have H4 := Lib.hid k4
    have k5 := fun W => sign_any 0 W
    rw [show sgnI (svW 0) = 0 by decide] at k5
    have H5 := Lib.hid k5
    clear k2 k4 k5 e1 e2 e3 hin
    go_enter Try.func6, Try.ntmps6
    go_wp2_with fail
    (with_reducible refine (H1.out _).mono ?_); rintro _ w1 ⟨rfl, l1⟩
    obtain ⟨hc, hf⟩ := bcell l1
    have hS0 : Below w.heap.size w w1 ∧ w1.cell? ⟨w.heap.size, 0, none⟩ = some (.int .i64 (hiW x)) ∧ w1.cell? ⟨w.heap.size, 1, none⟩ = some (.int .u64 (loW x)) := ⟨((Below.refl _ _).alloc (Nat.le_refl _) _).trans (l1.mono (by simp)), by go_simp, by go_simp⟩
    have HS0 := Lib.hid hS0
    obtain ⟨_, c0, c1⟩ := hS0
    clear l1 hc hf
    go_wp2_with fail
    go_region_held3 (fun W => Below w.heap.size w W ∧ W.cell? ⟨w.heap.size, 0, none⟩ = some (.int .i64 (hiW x)) ∧ W.cell? ⟨w.heap.size, 1, none⟩ = some (.int .u64 (loW x))) (first
      | assumption
      | exact ⟨HS0.out.1.drew, HS0.out.2⟩
      | exact HS0.out) (first
      | (go_at_call 29; (with_reducible refine (H2.out _).mono ?_); rintro e w' ⟨rfl, l1⟩; have hS := kp2 l1 (by first | assumption | exact ⟨HS0.out.1.drew, HS0.out.2⟩ | exact HS0.out); clear l1)
      | (go_at_call 25; (with_reducible refine (H3.out _).mono ?_); rintro e w' ⟨rfl, l1⟩; have hS := kp2 l1 (by assumption); clear l1)
      | (go_at_call 18; (with_reducible refine (H4.out _).mono ?_); rintro e w' ⟨rfl, l1⟩; have hS := kp2 l1 (by assumption); clear l1)
      | (go_at_call 23; (with_reducible refine (H5.out _).mono ?_); rintro e w' ⟨rfl, l1⟩; have hS := kp2 l1 (by assumption); clear l1)
      | (go_at_call 27; (with_reducible refine (H9.out _).mono ?_); rintro e w' ⟨rfl, l1⟩; have hS := kp2 l1 (by assumption); clear l1))
    go_wp2
    go_ret
    exact ⟨rfl, by first | exact hS.1 | exact hS.1.drew⟩
  · have H1 := Lib.hid (fun W => int_no x hin W)
    have hb := hiW_bd x
    have lb := loW_bd x
    have hor : (hiW x ≠ 0 ∧ hiW x ≠ -1) ∨ (hiW x = 0 ∧ 9223372036854775808 ≤ loW x) ∨ (hiW x = -1 ∧ loW x < 9223372036854775808) := by
      unfold In64 svW at hin; omega
    clear hin hb
    rcases hor with ⟨h1, h2⟩ | ⟨h1, h2⟩ | ⟨h1, h2⟩
    · have q1 : (hiW x != 0) = true := by simpa using h1
      have q2 : (hiW x != -1) = true := by simpa using h2
      clear h1 h2
      go_enter Try.func6, Try.ntmps6
      go_wp2_with fail
      (with_reducible refine (H1.out _).mono ?_); rintro _ w1 ⟨rfl, l1⟩
      obtain ⟨hc, hf⟩ := bcell l1
      have L1 := Lib.hid (((Below.refl w.heap.size w).alloc (Nat.le_refl _) (.cells #[.int .i64 (hiW x), .int .u64 (loW x)] 24)).trans (l1.mono (by simp)))
      have c0 : w1.cell? ⟨w.heap.size, 0, none⟩ = some (.int .i64 (hiW x)) := by go_simp
      have c1 : w1.cell? ⟨w.heap.size, 1, none⟩ = some (.int .u64 (loW x)) := by go_simp
      clear l1 hc hf
      go_wp2_with fail
      (with_reducible refine (H9.out _).mono ?_); rintro _ w9 ⟨rfl, l9⟩
      have L9 := Lib.hid (below2 L1.out l9)
      clear l9
      go_wp2
      go_ret
      exact ⟨rfl, L9.out⟩
    · have q1 : (hiW x != 0) = false := by simpa using h1
      have q2 : (hiW x == 0) = true := by simpa using h1
      have q3 : decide (9223372036854775808 ≤ loW x) = true := decide_eq_true h2
      clear h1 h2
      go_enter Try.func6, Try.ntmps6
      go_wp2_with fail
      (with_reducible refine (H1.out _).mono ?_); rintro _ w1 ⟨rfl, l1⟩
      obtain ⟨hc, hf⟩ := bcell l1
      have L1 := Lib.hid (((Below.refl w.heap.size w).alloc (Nat.le_refl _) (.cells #[.int .i64 (hiW x), .int .u64 (loW x)] 24)).trans (l1.mono (by simp)))
      have c0 : w1.cell? ⟨w.heap.size, 0, none⟩ = some (.int .i64 (hiW x)) := by go_simp
      have c1 : w1.cell? ⟨w.heap.size, 1, none⟩ = some (.int .u64 (loW x)) := by go_simp
      clear l1 hc hf
      go_wp2_with fail
      (with_reducible refine (H9.out _).mono ?_); rintro _ w9 ⟨rfl, l9⟩
      have L9 := Lib.hid (below2 L1.out l9)
      clear l9
      go_wp2
      go_ret
      exact ⟨rfl, L9.out⟩
    · have q1 : (hiW x != 0) = true := by rw [h1]; rfl
      have q2 : (hiW x != -1) = false := by rw [h1]; rfl
      have q3 : (hiW x == 0) = false := by rw [h1]; rfl
      have q4 : decide (9223372036854775808 ≤ loW x) = false := decide_eq_false (by omega)
      clear h1 h2
      go_enter Try.func6, Try.ntmps6
      go_wp2_with fail
      (with_reducible refine (H1.out _).mono ?_); rintro _ w1 ⟨rfl, l1⟩
      obtain ⟨hc, hf⟩ := bcell l1
      have L1 := Lib.hid (((Below.refl w.heap.size w).alloc (Nat.le_refl _) (.cells #[.int .i64 (hiW x), .int .u64 (loW x)] 24)).trans (l1.mono (by simp)))
      have c0 : w1.cell? ⟨w.heap.size, 0, none⟩ = some (.int .i64 (hiW x)) := by go_simp
      have c1 : w1.cell? ⟨w.heap.size, 1, none⟩ = some (.int .u64 (loW x)) := by go_simp
      clear l1 hc hf
      go_wp2_with fail
      (with_reducible refine (H9.out _).mono ?_); rintro _ w9 ⟨rfl, l9⟩
      have L9 := Lib.hid (below2 L1.out l9)
      clear l9
      go_wp2
      go_ret
      exact ⟨rfl, L9.out⟩
end Go.Proofs.Ytdpgoddhchoefaa
