/- geom's Inside: whatever the ring. -/
import Derived.Test.YtehmdokcdnlcdaaGIn
namespace Go.Proofs.Ytehmdokcdnlcdaa
open Go.RowKit
set_option linter.unusedVariables false

open Go.Shelf
attribute [local go_sem] Oper.semAt_some
theorem inok_0 {F : Nat → Pt} {n : Nat} {p : Pt} (h : n = 0) : InOk F n p = false := by unfold InOk; subst h; rfl
theorem inok_1 {F : Nat → Pt} {n : Nat} {p : Pt} (h : allB F n = false) : InOk F n p = false := by unfold InOk; rw [h]; simp
theorem inok_2 {F : Nat → Pt} {n : Nat} {p : Pt} (h : mayB p = false) : InOk F n p = false := by unfold InOk; rw [h]; simp
def RZi (W : World) (b : Nat) : Prop := Boxed W b 3 (.int .i64 0)
set_option maxRecDepth 100000 in
set_option maxHeartbeats 8000000 in
theorem inside_any (A : Option Addr) (n c : Nat) (F : Nat → Pt) (p : Pt) (w : World) (hP : Pts w A n F) (hn1 : n ≤ 9223372036854775806) : Calls Try.prog 23 #[.slice A n c, .agg #[.int .i64 p.x, .int .i64 p.y]] w fun e w' => e = .returned (.int .i64 (insideI F n p)) ∧ Below w.heap.size w w' := by
  have hl2 : Below w.heap.size w ((w.alloc (.cells #[.int .i64 p.x, .int .i64 p.y] 23)).alloc (.cells #[.int .i64 0] 3)) := ((Below.refl _ _).alloc (Nat.le_refl _) _).alloc (by simp) _
  rcases Nat.eq_zero_or_pos n with h0 | h0
  · have HE := Lib.hid (in_no (F := F) (n := n) (p := p) (inok_0 h0))
    subst h0
    go_enter Try.func23, Try.ntmps23
    go_wp2
    exact bodyPost_ret (v := .int .i64 0) (by simp [results, Try.results23, go_sem]) rfl ⟨by rw [HE.out], hl2⟩
  · have k1 := all_any A n c F _ (hP.keep hl2)
    have hnz : ((n : Int) == 0) = false := by simp; omega
    cases ha : allB F n
    · have HE := Lib.hid (in_no (F := F) (n := n) (p := p) (inok_1 ha))
      rw [ha] at k1
      have K1 := Lib.hid k1
      clear k1 ha hP
      go_enter Try.func23, Try.ntmps23
      go_wp2_with fail
      (with_reducible refine (K1.out).mono ?_); rintro _ w1 ⟨rfl, l1⟩
      have BR := Lib.hid (Boxed.of_block (Boxed.new2 w (.cells #[.int .i64 p.x, .int .i64 p.y] 23) 3 (.int .i64 0)) (l1.block (w.heap.size + 1) (by simp)))
      have cR := BR.out.cell
      have fR := BR.out.frozen
      have L1 := Lib.hid (hl2.trans (l1.mono (by simp; omega)))
      clear l1 hl2
      go_wp2
      have hd := (BR.out.set (.int .i64 0)).cell
      exact bodyPost_ret (v := .int .i64 0) (by simp [results, Try.results23, go_sem, hd]) rfl ⟨by rw [HE.out], L1.out.setCell (p := ⟨w.heap.size + 1, 0, none⟩) (by simp) _⟩
    · rw [ha] at k1
      have K1 := Lib.hid k1
      cases hm : mayB p
      · have HE := Lib.hid (in_no (F := F) (n := n) (p := p) (inok_2 hm))
        have k2 := fun W => may_any p W
        rw [hm] at k2
        have K2 := Lib.hid k2
        clear k1 k2 ha hm hP
        go_enter Try.func23, Try.ntmps23
        go_wp2_with fail
        (with_reducible refine (K1.out).mono ?_); rintro _ w1 ⟨rfl, l1⟩
        have b3 : w1.cell? ⟨w.heap.size, 0, none⟩ = some (.int .i64 p.x) := kp' l1 (by simp; omega) (by go_simp)
        have b4 : w1.cell? ⟨w.heap.size, 1, none⟩ = some (.int .i64 p.y) := kp' l1 (by simp; omega) (by go_simp)
        have BR := Lib.hid (Boxed.of_block (Boxed.new2 w (.cells #[.int .i64 p.x, .int .i64 p.y] 23) 3 (.int .i64 0)) (l1.block (w.heap.size + 1) (by simp)))
        have L1 := Lib.hid (hl2.trans (l1.mono (by simp; omega)))
        clear l1 hl2
        go_wp2_with fail
        (with_reducible refine (K2.out _).mono ?_); rintro _ w2 ⟨rfl, l2⟩
        have BR2 := Lib.hid (Boxed.of_block BR.out (l2.block _ BR.out.lt))
        have cR := BR2.out.cell
        have fR := BR2.out.frozen
        have L2 := Lib.hid (below2' L1.out l2)
        clear l2
        go_wp2
        have hd := (BR2.out.set (.int .i64 0)).cell
        exact bodyPost_ret (v := .int .i64 0) (by simp [results, Try.results23, go_sem, hd]) rfl ⟨by rw [HE.out], L2.out.setCell (p := ⟨w.heap.size + 1, 0, none⟩) (by simp) _⟩
      · obtain ⟨b, o, rfl, _⟩ := hP.2 h0
        exact inside_yes b o n c F p w hP hn1 h0 ha hm
end Go.Proofs.Ytehmdokcdnlcdaa
