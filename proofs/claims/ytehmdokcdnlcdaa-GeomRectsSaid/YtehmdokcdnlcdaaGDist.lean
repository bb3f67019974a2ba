/- geom's Distance and Nearest: the walks. -/
import Derived.Test.YtehmdokcdnlcdaaGJoin
import Derived.Test.YtehmdokcdnlcdaaGMeet
import Derived.BigQuiet
import Derived.Deep.QuietTactic
namespace Go.Proofs.Ytehmdokcdnlcdaa
open Go.RowKit
set_option linter.unusedVariables false

def sqD (a b : Pt) : Int := (b.x - a.x) * (b.x - a.x) + (b.y - a.y) * (b.y - a.y)
def May2 (a b : Pt) : Prop := MayP a ∧ MayP b
instance (a b : Pt) : Decidable (May2 a b) := by unfold May2; infer_instance
/-- The square of how far two points are apart. -/
def distI (a b : Pt) : Int := if May2 a b then sqD a b else 0
def F2p (a b : Pt) : Nat → Pt | 0 => a | _ => b
theorem pts2p (W : World) (a b : Pt) : Pts (W.alloc (.cells #[.int .i64 a.x, .int .i64 a.y, .int .i64 b.x, .int .i64 b.y] 23)) (some ⟨W.heap.size, 0, none⟩) 2 (F2p a b) :=
  ⟨by omega, fun _ => ⟨W.heap.size, 0, rfl, fun i hi => by
    rcases i with _ | _ | i
    · constructor <;> simp [F2p]
    · constructor <;> simp [F2p]
    · omega⟩⟩
theorem all2 (a b : Pt) : allB (F2p a b) 2 = decide (May2 a b) := by
  rw [Bool.eq_iff_iff, allB_iff, decide_eq_true_eq]
  constructor
  · intro h
    exact ⟨h 0 (by omega), h 1 (by omega)⟩
  · intro h i hi
    rcases i with _ | _ | i
    · exact h.1
    · exact h.2
    · omega
theorem sq_bd {x A : Int} (h1 : -A ≤ x) (h2 : x ≤ A) (hA : 0 ≤ A) : 0 ≤ x * x ∧ x * x ≤ A * A := by
  constructor
  · rcases Int.le_total 0 x with h | h
    · exact Int.mul_nonneg h h
    · exact Int.mul_nonneg_of_nonpos_of_nonpos h h
  · rcases Int.le_total 0 x with h | h
    · exact Int.mul_le_mul h2 h2 h hA
    · have := Int.mul_le_mul (show -x ≤ A by omega) (show -x ≤ A by omega) (show 0 ≤ -x by omega) hA
      rwa [Int.neg_mul_neg] at this
theorem sqD_bd {a b : Pt} (h : May2 a b) : 0 ≤ sqD a b ∧ sqD a b < 18446744073709551616 := by
  obtain ⟨ha, hb⟩ := h
  unfold MayP at ha hb
  have h1 := sq_bd (x := b.x - a.x) (A := 3600000000) (by omega) (by omega) (by omega)
  have h2 := sq_bd (x := b.y - a.y) (A := 1800000000) (by omega) (by omega) (by omega)
  unfold sqD
  omega
theorem distI_bd (a b : Pt) : 0 ≤ distI a b ∧ distI a b < 18446744073709551616 := by
  unfold distI
  split
  · rename_i h; exact sqD_bd h
  · omega
theorem lo_sq {a b : Pt} (h : May2 a b) : loW (sqD a b) = sqD a b := by
  have := sqD_bd h
  unfold loW
  omega
set_option maxRecDepth 100000 in
set_option maxHeartbeats 4000000 in
theorem dist_any (a b : Pt) (w : World) : Calls Try.prog 37 #[.agg #[.int .i64 a.x, .int .i64 a.y], .agg #[.int .i64 b.x, .int .i64 b.y]] w fun e w' => e = .returned (.int .u64 (distI a b)) ∧ Below w.heap.size w w' := by
  have hp := pts2p ((w.alloc (.cells #[.int .i64 a.x, .int .i64 a.y] 23)).alloc (.cells #[.int .i64 b.x, .int .i64 b.y] 23)) a b
  simp only [World.size_alloc] at hp
  have k1 := all_any _ 2 2 _ _ hp
  rw [all2] at k1
  have hL := Lib.hid (show Below w.heap.size w (((w.alloc (.cells #[.int .i64 a.x, .int .i64 a.y] 23)).alloc (.cells #[.int .i64 b.x, .int .i64 b.y] 23)).alloc (.cells #[.int .i64 a.x, .int .i64 a.y, .int .i64 b.x, .int .i64 b.y] 23)) from (((Below.refl w.heap.size w).alloc (Nat.le_refl _) _).alloc (by simp) _).alloc (by simp; omega) _)
  clear hp
  by_cases h : May2 a b
  · rw [decide_eq_true h] at k1
    have K1 := Lib.hid k1
    have hd : distI a b = sqD a b := if_pos h
    rw [hd]
    have HLO := Lib.hid (lo_sq h)
    obtain ⟨ha, hb⟩ := h
    unfold MayP at ha hb
    obtain ⟨a1, a2, a3, a4⟩ := ha
    obtain ⟨b1, b2, b3, b4⟩ := hb
    obtain ⟨x, hx⟩ : ∃ x, x = b.x - a.x := ⟨_, rfl⟩
    obtain ⟨y, hy⟩ : ∃ y, y = b.y - a.y := ⟨_, rfl⟩
    have K2 := Lib.hid (fun W => mul_any x x (by unfold In64; omega) (by unfold In64; omega) W)
    have K3 := Lib.hid (fun W => mul_any y y (by unfold In64; omega) (by unfold In64; omega) W)
    have K4 := Lib.hid (fun W => plus_any (x * x) (y * y) W)
    have HS := Lib.hid (show sqD a b = x * x + y * y by unfold sqD; rw [hx, hy])
    have hw0 : IntKind.i64.wrap (b.x - a.x) = x := by rw [IntKind.wrap_i64]; omega
    have hw1 : IntKind.i64.wrap (b.y - a.y) = y := by rw [IntKind.wrap_i64]; omega
    have hw2 : b.x - a.x = x := hx.symm
    have hw3 : b.y - a.y = y := hy.symm
    have HW := Lib.hid (And.intro hw2 hw3)
    have hfd : ∀ (p q : Int) (W : World), (Instr.field 55 (.agg #[.int .i64 p, .int .u64 q]) 1).run Try.prog W = .ok (.int .u64 q) W := fun p q W => by simp [Instr.field, asAgg, run_underlying Try.underlying55, go_sem]
    clear k1 hd hx hy hw2 hw3
    go_enter Try.func37, Try.ntmps37
    go_wp2_with fail
    (with_reducible refine (K1.out).mono ?_); rintro _ w1 ⟨rfl, l1⟩
    have L1 := Lib.hid (hL.out.trans (l1.mono (by simp; omega)))
    obtain ⟨hc, hf⟩ := bcell l1
    have p0 : w1.cell? ⟨w.heap.size, 0, none⟩ = some (.int .i64 a.x) := by go_simp
    have p1 : w1.cell? ⟨w.heap.size, 1, none⟩ = some (.int .i64 a.y) := by go_simp
    have p2 : w1.cell? ⟨w.heap.size + 1, 0, none⟩ = some (.int .i64 b.x) := by go_simp
    have p3 : w1.cell? ⟨w.heap.size + 1, 1, none⟩ = some (.int .i64 b.y) := by go_simp
    clear hc hf l1
    go_wp2_with fail
    go_quiet (fail)
    have L2 := Lib.hid (show Below w.heap.size w (w1.drewN nq) from L1.out.trans ⟨rfl, rfl, rfl, Nat.le_refl _, fun _ _ => rfl⟩)
    clear p0 p1 p2 p3 hw0 hw1
    generalize w1.drewN nq = w2 at L2 ⊢
    go_wp2_with fail
    (with_reducible refine (K2.out _).mono ?_); rintro _ w3 ⟨rfl, l3⟩
    have L3 := Lib.hid (below2' L2.out l3)
    clear l3
    go_wp2_with fail
    (with_reducible refine (K3.out _).mono ?_); rintro _ w4 ⟨rfl, l4⟩
    have L4 := Lib.hid (below2' L3.out l4)
    clear l4
    go_wp2_with fail
    (with_reducible refine (K4.out _).mono ?_); rintro _ w5 ⟨rfl, l5⟩
    have L5 := Lib.hid (below2' L4.out l5)
    clear l5
    go_wp2
    go_ret
    exact ⟨by rw [← HLO.out, HS.out]; rfl, L5.out⟩
  · rw [decide_eq_false h] at k1
    have K1 := Lib.hid k1
    have hd : distI a b = 0 := if_neg h
    rw [hd]
    clear k1 h hd
    go_enter Try.func37, Try.ntmps37
    go_wp2_with fail
    (with_reducible refine (K1.out).mono ?_); rintro _ w1 ⟨rfl, l1⟩
    have L1 := Lib.hid (hL.out.trans (l1.mono (by simp; omega)))
    clear l1
    go_wp2
    go_ret
    exact ⟨rfl, L1.out⟩
/-- The point of a rect that is nearest. -/
def clampP (r : Rc) (p : Pt) : Pt := ⟨min (max p.x r.x0) r.x1, min (max p.y r.y0) r.y1⟩
def nearI (r : Rc) (p : Pt) : Int := if mayRB r then distI p (clampP r p) else 0
set_option maxRecDepth 100000 in
set_option maxHeartbeats 4000000 in
theorem near_any (r : Rc) (p : Pt) (w : World) : Calls Try.prog 36 #[vR r, .agg #[.int .i64 p.x, .int .i64 p.y]] w fun e w' => e = .returned (.int .u64 (nearI r p)) ∧ Below w.heap.size w w' := by
  have hL := Lib.hid (show Below w.heap.size w ((w.alloc (.cells #[.int .i64 r.x0, .int .i64 r.y0, .int .i64 r.x1, .int .i64 r.y1] 36)).alloc (.cells #[.int .i64 p.x, .int .i64 p.y] 23)) from ((Below.refl w.heap.size w).alloc (Nat.le_refl _) _).alloc (by simp) _)
  have k1 := fun W => mayRect_any r W
  unfold nearI
  cases hr : mayRB r
  · rw [hr] at k1
    have K1 := Lib.hid k1
    clear k1 hr
    go_enter Try.func36, Try.ntmps36
    go_wp2_with fail
    (with_reducible refine (K1.out _).mono ?_); rintro _ w1 ⟨rfl, l1⟩
    have L1 := Lib.hid (hL.out.trans (l1.mono (by simp; omega)))
    clear l1
    go_wp2
    go_ret
    exact ⟨rfl, L1.out⟩
  · rw [hr] at k1
    have K1 := Lib.hid k1
    show Calls _ _ _ _ fun e w' => e = .returned (.int .u64 (distI p (clampP r p))) ∧ Below w.heap.size w w'
    have k2 := fun W => dist_any p (clampP r p) W
    obtain ⟨d, hd⟩ : ∃ d, d = distI p (clampP r p) := ⟨_, rfl⟩
    rw [← hd] at k2 ⊢
    have K2 := Lib.hid (show ∀ W : World, Calls Try.prog 37 #[.agg #[.int .i64 p.x, .int .i64 p.y], .agg #[.int .i64 (min (max p.x r.x0) r.x1), .int .i64 (min (max p.y r.y0) r.y1)]] W fun e w' => e = .returned (.int .u64 d) ∧ Below W.heap.size W w' from k2)
    clear k1 k2 hr hd
    go_enter Try.func36, Try.ntmps36
    go_wp2_with fail
    (with_reducible refine (K1.out _).mono ?_); rintro _ w1 ⟨rfl, l1⟩
    have L1 := Lib.hid (hL.out.trans (l1.mono (by simp; omega)))
    obtain ⟨hc, hf⟩ := bcell l1
    have p0 : w1.cell? ⟨w.heap.size, 0, none⟩ = some (.int .i64 r.x0) := by go_simp
    have p1 : w1.cell? ⟨w.heap.size, 1, none⟩ = some (.int .i64 r.y0) := by go_simp
    have p2 : w1.cell? ⟨w.heap.size, 2, none⟩ = some (.int .i64 r.x1) := by go_simp
    have p3 : w1.cell? ⟨w.heap.size, 3, none⟩ = some (.int .i64 r.y1) := by go_simp
    have p4 : w1.cell? ⟨w.heap.size + 1, 0, none⟩ = some (.int .i64 p.x) := by go_simp
    have p5 : w1.cell? ⟨w.heap.size + 1, 1, none⟩ = some (.int .i64 p.y) := by go_simp
    clear hc hf l1
    go_wp2_with fail
    (with_reducible refine (K2.out _).mono ?_); rintro _ w2 ⟨rfl, l2⟩
    have L2 := Lib.hid (below2' L1.out l2)
    clear l2
    go_wp2
    go_ret
    exact ⟨rfl, L2.out⟩
end Go.Proofs.Ytehmdokcdnlcdaa
