/- geom's Turn, the document's Turn: the walks. -/
import Derived.Test.YtehmdokcdnlcdaaGAll
import Derived.Test.YtehmdokcdnlcdaaWMul
import Derived.Shelf.Small.Bits
import Derived.Shelf.Strconv.Itoa0
import Derived.Test.YtehmdokcdnlcdaaWCmp
namespace Go.Proofs.Ytehmdokcdnlcdaa
open Go.RowKit
set_option linter.unusedVariables false


def F3 (a b c : Pt) : Nat → Pt | 0 => a | 1 => b | _ => c
theorem pts3 (W : World) (a b c : Pt) : Pts (W.alloc (.cells #[.int .i64 a.x, .int .i64 a.y, .int .i64 b.x, .int .i64 b.y, .int .i64 c.x, .int .i64 c.y] 23)) (some ⟨W.heap.size, 0, none⟩) 3 (F3 a b c) :=
  ⟨by omega, fun _ => ⟨W.heap.size, 0, rfl, fun i hi => by
    rcases i with _ | _ | _ | i
    · constructor <;> simp [F3]
    · constructor <;> simp [F3]
    · constructor <;> simp [F3]
    · omega⟩⟩
theorem all3_yes {a b c : Pt} (h : May3 a b c) : allB (F3 a b c) 3 = true := (allB_iff _ _).2 fun i hi => by
  rcases i with _ | _ | _ | i
  · exact h.1
  · exact h.2.1
  · exact h.2.2
  · omega
theorem all3_no {a b c : Pt} (h : ¬ May3 a b c) : allB (F3 a b c) 3 = false := by
  cases e : allB (F3 a b c) 3
  · rfl
  · have k := (allB_iff _ _).1 e
    exact absurd ⟨k 0 (by omega), k 1 (by omega), k 2 (by omega)⟩ h
/-- The bounds of points that may be. -/
theorem May3.bd {a b c : Pt} (h : May3 a b c) : (-1800000000 ≤ a.x ∧ a.x ≤ 1800000000 ∧ -900000000 ≤ a.y ∧ a.y ≤ 900000000) ∧ (-1800000000 ≤ b.x ∧ b.x ≤ 1800000000 ∧ -900000000 ≤ b.y ∧ b.y ≤ 900000000) ∧ (-1800000000 ≤ c.x ∧ c.x ≤ 1800000000 ∧ -900000000 ≤ c.y ∧ c.y ≤ 900000000) := h
set_option maxRecDepth 100000 in
set_option maxHeartbeats 4000000 in
theorem turn_any (a b c : Pt) (w : World) : Calls Try.prog 14 #[.agg #[.int .i64 a.x, .int .i64 a.y], .agg #[.int .i64 b.x, .int .i64 b.y], .agg #[.int .i64 c.x, .int .i64 c.y]] w fun e w' => e = .returned (.int .i64 (turnI a b c)) ∧ Below w.heap.size w w' := by
  have hp := pts3 (((w.alloc (.cells #[.int .i64 a.x, .int .i64 a.y] 23)).alloc (.cells #[.int .i64 b.x, .int .i64 b.y] 23)).alloc (.cells #[.int .i64 c.x, .int .i64 c.y] 23)) a b c
  simp only [World.size_alloc] at hp
  have K1 := Lib.hid (all_any _ 3 3 _ _ hp)
  clear hp
  by_cases hm : May3 a b c
  · rw [all3_yes hm, turn_may hm] at *
    have HC := Lib.hid (sv_cross hm)
    obtain ⟨⟨a1, a2, a3, a4⟩, ⟨b1, b2, b3, b4⟩, ⟨c1, c2, c3, c4⟩⟩ := hm.bd
    obtain ⟨u, hu⟩ : ∃ u, u = (b.x - a.x) * (c.y - a.y) := ⟨_, rfl⟩
    obtain ⟨v, hv⟩ : ∃ v, v = (b.y - a.y) * (c.x - a.x) := ⟨_, rfl⟩
    have k2 := fun W => mul_any (b.x - a.x) (c.y - a.y) (by unfold In64; omega) (by unfold In64; omega) W
    have k3 := fun W => mul_any (b.y - a.y) (c.x - a.x) (by unfold In64; omega) (by unfold In64; omega) W
    have hcr : cross a b c = u - v := by rw [hu, hv]; rfl
    rw [← hu] at k2
    rw [← hv] at k3
    have K2 := Lib.hid k2
    have K3 := Lib.hid k3
    have K4 := Lib.hid (fun W => less_any u v W)
    have k5 := fun W => sign_any (u - v) W
    rw [← hcr, HC.out] at k5
    have K5 := Lib.hid k5
    rw [hcr] at K5 HC ⊢
    clear k2 k3 k5 hu hv hm hcr
    go_enter Try.func14, Try.ntmps14
    go_wp2_with fail
    (with_reducible refine (K1.out).mono ?_); rintro _ w1 ⟨rfl, l1⟩
    have L1 := Lib.hid (((((Below.refl w.heap.size w).alloc (Nat.le_refl _) _).alloc (by simp) _).alloc (by simp; omega) _).alloc (by simp; omega) _ |>.trans (l1.mono (by simp; omega)))
    obtain ⟨hc, hf⟩ := bcell l1
    have p0 : w1.cell? ⟨w.heap.size, 0, none⟩ = some (.int .i64 a.x) := by go_simp
    have p1 : w1.cell? ⟨w.heap.size, 1, none⟩ = some (.int .i64 a.y) := by go_simp
    have p2 : w1.cell? ⟨w.heap.size + 1, 0, none⟩ = some (.int .i64 b.x) := by go_simp
    have p3 : w1.cell? ⟨w.heap.size + 1, 1, none⟩ = some (.int .i64 b.y) := by go_simp
    have p4 : w1.cell? ⟨w.heap.size + 1 + 1, 0, none⟩ = some (.int .i64 c.x) := by go_simp
    have p5 : w1.cell? ⟨w.heap.size + 1 + 1, 1, none⟩ = some (.int .i64 c.y) := by go_simp
    clear hc hf l1
    go_wp2_with fail
    (with_reducible refine (K2.out _).mono ?_); rintro _ w2 ⟨rfl, l2⟩
    have L2 := Lib.hid (below2' L1.out l2)
    have q0 := kp' l2 (cell_lt' p0) p0
    have q1 := kp' l2 (cell_lt' p1) p1
    have q2 := kp' l2 (cell_lt' p2) p2
    have q3 := kp' l2 (cell_lt' p3) p3
    have q4 := kp' l2 (cell_lt' p4) p4
    have q5 := kp' l2 (cell_lt' p5) p5
    have z0 := cell_lt' q0
    have z1 := cell_lt' q2
    have z2 := cell_lt' q4
    clear l2
    go_wp2_with fail
    (with_reducible refine (K3.out _).mono ?_); rintro _ w3 ⟨rfl, l3⟩
    have r0 : w3.cell? ⟨w2.heap.size, 0, none⟩ = some (.int .i64 (hiW u)) := kp' l3 (by simp) (by go_simp)
    have r1 : w3.cell? ⟨w2.heap.size, 1, none⟩ = some (.int .u64 (loW u)) := kp' l3 (by simp) (by go_simp)
    have L3 := Lib.hid (below2' (L2.out.alloc L2.out.size _) l3)
    have z3 := cell_lt' r0
    clear l3
    go_wp2_with fail
    (with_reducible refine (K4.out _).mono ?_); rintro _ w4 ⟨rfl, l4⟩
    have L4 := Lib.hid (below2' (L3.out.alloc L3.out.size _) l4)
    clear l4
    go_wp2_with fail
    (with_reducible refine (K5.out _).mono ?_); rintro _ w5 ⟨rfl, l5⟩
    have L5 := Lib.hid (below2' L4.out l5)
    clear l5
    go_wp2
    go_ret
    exact ⟨rfl, L5.out⟩
  · rw [all3_no hm, turn_no hm] at *
    clear hm
    go_enter Try.func14, Try.ntmps14
    go_wp2_with fail
    (with_reducible refine (K1.out).mono ?_); rintro _ w1 ⟨rfl, l1⟩
    have L1 := Lib.hid (((((Below.refl w.heap.size w).alloc (Nat.le_refl _) _).alloc (by simp) _).alloc (by simp; omega) _).alloc (by simp; omega) _ |>.trans (l1.mono (by simp; omega)))
    clear l1
    go_wp2
    go_ret
    exact ⟨rfl, L1.out⟩
set_option maxRecDepth 100000 in
set_option maxHeartbeats 4000000 in
theorem refTurn_any (a b c : Pt) (hm : May3 a b c) (w : World) : Calls Try.prog 12 #[.agg #[.int .i64 a.x, .int .i64 a.y], .agg #[.int .i64 b.x, .int .i64 b.y], .agg #[.int .i64 c.x, .int .i64 c.y]] w fun e w' => e = .returned (.int .i64 (turnI a b c)) ∧ Below w.heap.size w w' := by
  rw [turn_may hm]
  obtain ⟨⟨a1, a2, a3, a4⟩, ⟨b1, b2, b3, b4⟩, ⟨c1, c2, c3, c4⟩⟩ := hm.bd
  obtain ⟨⟨x1, x2⟩, ⟨y1, y2⟩⟩ := cross_bd hm
  have w1 : IntKind.i64.wrap (b.x - a.x) = b.x - a.x := IntWalk.i64_in _ (by omega)
  have w2 : IntKind.i64.wrap (c.y - a.y) = c.y - a.y := IntWalk.i64_in _ (by omega)
  have w3 : IntKind.i64.wrap (b.y - a.y) = b.y - a.y := IntWalk.i64_in _ (by omega)
  have w4 : IntKind.i64.wrap (c.x - a.x) = c.x - a.x := IntWalk.i64_in _ (by omega)
  have w5 : IntKind.i64.wrap ((b.x - a.x) * (c.y - a.y)) = (b.x - a.x) * (c.y - a.y) := IntWalk.i64_in _ (by omega)
  have w6 : IntKind.i64.wrap ((b.y - a.y) * (c.x - a.x)) = (b.y - a.y) * (c.x - a.x) := IntWalk.i64_in _ (by omega)
  have hl : Below w.heap.size w (((w.alloc (.cells #[.int .i64 a.x, .int .i64 a.y] 23)).alloc (.cells #[.int .i64 b.x, .int .i64 b.y] 23)).alloc (.cells #[.int .i64 c.x, .int .i64 c.y] 23)) := (((Below.refl w.heap.size w).alloc (Nat.le_refl _) _).alloc (by simp) _).alloc (by simp; omega) _
  have HL := Lib.hid hl
  have hcr : cross a b c = (b.x - a.x) * (c.y - a.y) - (b.y - a.y) * (c.x - a.x) := rfl
  rw [hcr]
  clear hcr hl hm
  rcases Int.lt_trichotomy ((b.x - a.x) * (c.y - a.y)) ((b.y - a.y) * (c.x - a.x)) with h | h | h
  · have HE := Lib.hid (sgn_neg (v := (b.x - a.x) * (c.y - a.y) - (b.y - a.y) * (c.x - a.x)) (by omega))
    have h1 : ¬ (b.y - a.y) * (c.x - a.x) < (b.x - a.x) * (c.y - a.y) := by omega
    go_enter Try.func12, Try.ntmps12
    go_wp2
    go_quiet (fail)
    go_wp2
    go_ret
    exact ⟨ret_i HE.out.symm, by first | exact below_drewN HL.out _ | exact HL.out.drew⟩
  · have HE := Lib.hid (sgn_zero (v := (b.x - a.x) * (c.y - a.y) - (b.y - a.y) * (c.x - a.x)) (by omega))
    have h1 : ¬ (b.y - a.y) * (c.x - a.x) < (b.x - a.x) * (c.y - a.y) := by omega
    have h2 : ¬ (b.x - a.x) * (c.y - a.y) < (b.y - a.y) * (c.x - a.x) := by omega
    clear h
    go_enter Try.func12, Try.ntmps12
    go_wp2
    go_quiet (fail)
    go_wp2
    go_ret
    exact ⟨ret_i HE.out.symm, by first | exact below_drewN HL.out _ | exact HL.out.drew⟩
  · have HE := Lib.hid (sgn_pos (v := (b.x - a.x) * (c.y - a.y) - (b.y - a.y) * (c.x - a.x)) (by omega))
    go_enter Try.func12, Try.ntmps12
    go_wp2
    go_quiet (fail)
    go_wp2
    go_ret
    exact ⟨ret_i HE.out.symm, by first | exact below_drewN HL.out _ | exact HL.out.drew⟩
end Go.Proofs.Ytehmdokcdnlcdaa
