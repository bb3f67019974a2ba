/- geom's On, the document's between and On: the walks. -/
import Derived.Test.YtehmdokcdnlcdaaGBounds
namespace Go.Proofs.Ytehmdokcdnlcdaa
open Go.RowKit
set_option linter.unusedVariables false


def F2 (a b : Pt) : Nat → Pt | 0 => a | _ => b
theorem pts2 (W : World) (a b : Pt) : Pts (W.alloc (.cells #[.int .i64 a.x, .int .i64 a.y, .int .i64 b.x, .int .i64 b.y] 23)) (some ⟨W.heap.size, 0, none⟩) 2 (F2 a b) :=
  ⟨by omega, fun _ => ⟨W.heap.size, 0, rfl, fun i hi => by
    rcases i with _ | _ | i
    · constructor <;> simp [F2]
    · constructor <;> simp [F2]
    · omega⟩⟩
theorem all2_yes {a b : Pt} (ha : MayP a) (hb : MayP b) : allB (F2 a b) 2 = true := (allB_iff _ _).2 fun i hi => by
  rcases i with _ | _ | i
  · exact ha
  · exact hb
  · omega
theorem all2_no {a b : Pt} (h : ¬ (MayP a ∧ MayP b)) : allB (F2 a b) 2 = false := by
  cases e : allB (F2 a b) 2
  · rfl
  · have k := (allB_iff _ _).1 e
    exact absurd ⟨k 0 (by omega), k 1 (by omega)⟩ h
theorem bounds2 (a b : Pt) : boundsN (F2 a b) 2 = joinR (justR a) (justR b) := rfl
theorem on_no {a b p : Pt} (h : ¬ OnP a b p) : onB a b p = false := decide_eq_false h
theorem on_yes {a b p : Pt} (h : OnP a b p) : onB a b p = true := decide_eq_true h
theorem ov2_iff {a b p : Pt} : ovB (joinR (justR a) (justR b)) (justR p) = true ↔ MayR (joinR (justR a) (justR b)) ∧ MayP p ∧ min a.x b.x ≤ p.x ∧ p.x ≤ max a.x b.x ∧ min a.y b.y ≤ p.y ∧ p.y ≤ max a.y b.y := by
  unfold ovB
  rw [decide_eq_true_eq]
  unfold OvP
  constructor
  · rintro ⟨h1, h2, h3, h4, h5, h6⟩
    exact ⟨h1, h2.1, h3, h4, h5, h6⟩
  · rintro ⟨h1, h2, h3, h4, h5, h6⟩
    exact ⟨h1, just_may h2, h3, h4, h5, h6⟩
theorem on_out {a b p : Pt} (h : ovB (joinR (justR a) (justR b)) (justR p) = false) (ha : MayP a) (hb : MayP b) : onB a b p = false := by
  apply on_no
  rintro ⟨hm, h1, h2, h3, h4, _⟩
  have : ovB (joinR (justR a) (justR b)) (justR p) = true := ov2_iff.2 ⟨join_may (just_may ha) (just_may hb), hm.2.2, h1, h2, h3, h4⟩
  rw [h] at this; cases this
theorem sgn_zero_iff (v : Int) : sgnI v = 0 ↔ v = 0 := by unfold sgnI; split <;> (try split) <;> omega
theorem on_in {a b p : Pt} (h : ovB (joinR (justR a) (justR b)) (justR p) = true) (ha : MayP a) (hb : MayP b) : onB a b p = (turnI a b p == 0) := by
  obtain ⟨_, hp, h1, h2, h3, h4⟩ := ov2_iff.1 h
  have hm : May3 a b p := ⟨ha, hb, hp⟩
  rw [turn_may hm]
  by_cases hz : cross a b p = 0
  · rw [on_yes ⟨hm, h1, h2, h3, h4, hz⟩, (sgn_zero_iff _).2 hz]; rfl
  · rw [on_no fun h => hz h.2.2.2.2.2]
    have : sgnI (cross a b p) ≠ 0 := fun e => hz ((sgn_zero_iff _).1 e)
    simp [this]
set_option maxRecDepth 100000 in
set_option maxHeartbeats 8000000 in
theorem on_any (a b p : Pt) (w : World) : Calls Try.prog 15 #[.agg #[.int .i64 a.x, .int .i64 a.y], .agg #[.int .i64 b.x, .int .i64 b.y], .agg #[.int .i64 p.x, .int .i64 p.y]] w fun e w' => e = .returned (.bool (onB a b p)) ∧ Below w.heap.size w w' := by
  have hp := pts2 (((w.alloc (.cells #[.int .i64 a.x, .int .i64 a.y] 23)).alloc (.cells #[.int .i64 b.x, .int .i64 b.y] 23)).alloc (.cells #[.int .i64 p.x, .int .i64 p.y] 23)) a b
  simp only [World.size_alloc] at hp
  by_cases hm : MayP a ∧ MayP b
  · have k1 := bounds_yes _ 2 2 _ _ hp (by omega) (by omega) (by omega) (all2_yes hm.1 hm.2)
    rw [bounds2] at k1
    have k2 := fun W => holds_any (joinR (justR a) (justR b)) p W
    have H0 := Lib.hid (And.intro (fun h => on_out (a := a) (b := b) (p := p) h hm.1 hm.2) (fun h => on_in (a := a) (b := b) (p := p) h hm.1 hm.2))
    obtain ⟨j, hj⟩ : ∃ j, j = joinR (justR a) (justR b) := ⟨_, rfl⟩
    rw [← hj] at k1 k2 H0
    have K1 := Lib.hid k1
    clear k1 hp hm hj
    cases hh : ovB j (justR p)
    · rw [hh] at k2
      have HE := Lib.hid (H0.out.1 hh)
      have K2 := Lib.hid k2
      clear k2 hh
      go_enter Try.func15, Try.ntmps15
      go_wp2_with fail
      (with_reducible refine (K1.out).mono ?_); rintro _ w1 ⟨rfl, l1⟩
      have L1 := Lib.hid ((((((Below.refl w.heap.size w).alloc (Nat.le_refl _) _).alloc (by simp) _).alloc (by simp; omega) _).alloc (by simp; omega) _).trans (l1.mono (by simp; omega)))
      obtain ⟨hc, hf⟩ := bcell l1
      have p0 : w1.cell? ⟨w.heap.size, 0, none⟩ = some (.int .i64 a.x) := by go_simp
      have p1 : w1.cell? ⟨w.heap.size, 1, none⟩ = some (.int .i64 a.y) := by go_simp
      have p2 : w1.cell? ⟨w.heap.size + 1, 0, none⟩ = some (.int .i64 b.x) := by go_simp
      have p3 : w1.cell? ⟨w.heap.size + 1, 1, none⟩ = some (.int .i64 b.y) := by go_simp
      have p4 : w1.cell? ⟨w.heap.size + 1 + 1, 0, none⟩ = some (.int .i64 p.x) := by go_simp
      have p5 : w1.cell? ⟨w.heap.size + 1 + 1, 1, none⟩ = some (.int .i64 p.y) := by go_simp
      have z0 := cell_lt' p0
      have z1 := cell_lt' p2
      have z2 := cell_lt' p4
      clear l1 hc hf
      go_wp2_with fail
      (with_reducible refine (K2.out _).mono ?_); rintro _ w2 ⟨rfl, l2⟩
      have L2 := Lib.hid (below2' (L1.out.alloc L1.out.size _) l2)
      have q0 := kp' l2 (by simp; omega) ((World.cell?_alloc_past _ _ _ z0).trans p0)
      have q1 := kp' l2 (by simp; omega) ((World.cell?_alloc_past _ _ _ z0).trans p1)
      have q2 := kp' l2 (by simp; omega) ((World.cell?_alloc_past _ _ _ z1).trans p2)
      have q3 := kp' l2 (by simp; omega) ((World.cell?_alloc_past _ _ _ z1).trans p3)
      have q4 := kp' l2 (by simp; omega) ((World.cell?_alloc_past _ _ _ z2).trans p4)
      have q5 := kp' l2 (by simp; omega) ((World.cell?_alloc_past _ _ _ z2).trans p5)
      clear l2 p0 p1 p2 p3 p4 p5
      go_wp2
      go_ret
      exact ⟨ret_b HE.out.symm, L2.out⟩
    · rw [hh] at k2
      have HE := Lib.hid (H0.out.2 hh)
      have K2 := Lib.hid k2
      have k3 := fun W => turn_any a b p W
      obtain ⟨t, ht⟩ : ∃ t, t = turnI a b p := ⟨_, rfl⟩
      rw [← ht] at k3 HE
      have K3 := Lib.hid k3
      clear k2 hh k3 ht
      go_enter Try.func15, Try.ntmps15
      go_wp2_with fail
      (with_reducible refine (K1.out).mono ?_); rintro _ w1 ⟨rfl, l1⟩
      have L1 := Lib.hid ((((((Below.refl w.heap.size w).alloc (Nat.le_refl _) _).alloc (by simp) _).alloc (by simp; omega) _).alloc (by simp; omega) _).trans (l1.mono (by simp; omega)))
      obtain ⟨hc, hf⟩ := bcell l1
      have p0 : w1.cell? ⟨w.heap.size, 0, none⟩ = some (.int .i64 a.x) := by go_simp
      have p1 : w1.cell? ⟨w.heap.size, 1, none⟩ = some (.int .i64 a.y) := by go_simp
      have p2 : w1.cell? ⟨w.heap.size + 1, 0, none⟩ = some (.int .i64 b.x) := by go_simp
      have p3 : w1.cell? ⟨w.heap.size + 1, 1, none⟩ = some (.int .i64 b.y) := by go_simp
      have p4 : w1.cell? ⟨w.heap.size + 1 + 1, 0, none⟩ = some (.int .i64 p.x) := by go_simp
      have p5 : w1.cell? ⟨w.heap.size + 1 + 1, 1, none⟩ = some (.int .i64 p.y) := by go_simp
      have z0 := cell_lt' p0
      have z1 := cell_lt' p2
      have z2 := cell_lt' p4
      clear l1 hc hf
      go_wp2_with fail
      (with_reducible refine (K2.out _).mono ?_); rintro _ w2 ⟨rfl, l2⟩
      have L2 := Lib.hid (below2' (L1.out.alloc L1.out.size _) l2)
      have q0 := kp' l2 (by simp; omega) ((World.cell?_alloc_past _ _ _ z0).trans p0)
      have q1 := kp' l2 (by simp; omega) ((World.cell?_alloc_past _ _ _ z0).trans p1)
      have q2 := kp' l2 (by simp; omega) ((World.cell?_alloc_past _ _ _ z1).trans p2)
      have q3 := kp' l2 (by simp; omega) ((World.cell?_alloc_past _ _ _ z1).trans p3)
      have q4 := kp' l2 (by simp; omega) ((World.cell?_alloc_past _ _ _ z2).trans p4)
      have q5 := kp' l2 (by simp; omega) ((World.cell?_alloc_past _ _ _ z2).trans p5)
      clear l2 p0 p1 p2 p3 p4 p5
      go_wp2_with fail
      (with_reducible refine (K3.out _).mono ?_); rintro _ w3 ⟨rfl, l3⟩
      have L3 := Lib.hid (below2' L2.out l3)
      clear l3
      go_wp2
      go_ret
      exact ⟨ret_b (by rw [HE.out]), L3.out⟩
  · have k1 := bounds_no _ 2 2 _ _ hp (.inr (all2_no hm))
    have K1 := Lib.hid k1
    have HE := Lib.hid (on_no (a := a) (b := b) (p := p) fun h => hm ⟨h.1.1, h.1.2.1⟩)
    clear k1 hp hm
    go_enter Try.func15, Try.ntmps15
    go_wp2_with fail
    (with_reducible refine (K1.out).mono ?_); rintro _ w1 ⟨rfl, l1⟩
    have L1 := Lib.hid ((((((Below.refl w.heap.size w).alloc (Nat.le_refl _) _).alloc (by simp) _).alloc (by simp; omega) _).alloc (by simp; omega) _).trans (l1.mono (by simp; omega)))
    clear l1
    go_wp2
    go_ret
    exact ⟨ret_b HE.out.symm, L1.out.alloc L1.out.size _⟩
def btB (a n b : Int) : Bool := decide ((a ≤ n ∧ n ≤ b) ∨ (b ≤ n ∧ n ≤ a))
theorem bt_yes {a n b : Int} (h : (a ≤ n ∧ n ≤ b) ∨ (b ≤ n ∧ n ≤ a)) : btB a n b = true := decide_eq_true h
theorem bt_no {a n b : Int} (h : ¬ ((a ≤ n ∧ n ≤ b) ∨ (b ≤ n ∧ n ≤ a))) : btB a n b = false := decide_eq_false h
set_option maxHeartbeats 2000000 in
theorem between_any (a n b : Int) (w : World) : Calls Try.prog 39 #[.int .i64 a, .int .i64 n, .int .i64 b] w fun e w' => e = .returned (.bool (btB a n b)) ∧ w = w' := by
  by_cases h1 : a ≤ n
  · by_cases h2 : n ≤ b
    · have HE := Lib.hid (bt_yes (.inl ⟨h1, h2⟩))
      go_enter Try.func39, Try.ntmps39
      go_wp2
      go_ret
      exact ⟨ret_b HE.out.symm, rfl⟩
    · by_cases h3 : b ≤ n
      · by_cases h4 : n ≤ a
        · have HE := Lib.hid (bt_yes (.inr ⟨h3, h4⟩))
          go_enter Try.func39, Try.ntmps39
          go_wp2
          go_ret
          exact ⟨ret_b HE.out.symm, rfl⟩
        · have HE := Lib.hid (bt_no (a := a) (n := n) (b := b) (by omega))
          go_enter Try.func39, Try.ntmps39
          go_wp2
          go_ret
          exact ⟨ret_b HE.out.symm, rfl⟩
      · exact absurd (show b ≤ n by omega) h3
  · by_cases h3 : b ≤ n
    · have h4 : n ≤ a := by omega
      have HE := Lib.hid (bt_yes (.inr ⟨h3, h4⟩))
      go_enter Try.func39, Try.ntmps39
      go_wp2
      go_ret
      exact ⟨ret_b HE.out.symm, rfl⟩
    · have HE := Lib.hid (bt_no (a := a) (n := n) (b := b) (by omega))
      go_enter Try.func39, Try.ntmps39
      go_wp2
      go_ret
      exact ⟨ret_b HE.out.symm, rfl⟩
theorem bt_mm (a n b : Int) : btB a n b = true ↔ min a b ≤ n ∧ n ≤ max a b := by unfold btB; rw [decide_eq_true_eq]; omega
theorem ron_yes {a b p : Pt} (hm : May3 a b p) (h1 : turnI a b p = 0) (h2 : btB a.x p.x b.x = true) (h3 : btB a.y p.y b.y = true) : onB a b p = true := by
  rw [turn_may hm] at h1
  exact on_yes ⟨hm, ((bt_mm _ _ _).1 h2).1, ((bt_mm _ _ _).1 h2).2, ((bt_mm _ _ _).1 h3).1, ((bt_mm _ _ _).1 h3).2, (sgn_zero_iff _).1 h1⟩
theorem ron_no1 {a b p : Pt} (hm : May3 a b p) (h1 : turnI a b p ≠ 0) : onB a b p = false := on_no fun h => h1 (by rw [turn_may hm]; exact (sgn_zero_iff _).2 h.2.2.2.2.2)
theorem ron_no2 {a b p : Pt} (h : btB a.x p.x b.x = false) : onB a b p = false := on_no fun k => by
  rw [(bt_mm _ _ _).2 ⟨k.2.1, k.2.2.1⟩] at h; cases h
theorem ron_no3 {a b p : Pt} (h : btB a.y p.y b.y = false) : onB a b p = false := on_no fun k => by
  rw [(bt_mm _ _ _).2 ⟨k.2.2.2.1, k.2.2.2.2.1⟩] at h; cases h
set_option maxRecDepth 100000 in
set_option maxHeartbeats 8000000 in
theorem refOn_any (a b p : Pt) (hm : May3 a b p) (w : World) : Calls Try.prog 13 #[.agg #[.int .i64 a.x, .int .i64 a.y], .agg #[.int .i64 b.x, .int .i64 b.y], .agg #[.int .i64 p.x, .int .i64 p.y]] w fun e w' => e = .returned (.bool (onB a b p)) ∧ Below w.heap.size w w' := by
  have k1 := fun W => refTurn_any a b p hm W
  have k2 := fun W => between_any a.x p.x b.x W
  have k3 := fun W => between_any a.y p.y b.y W
  by_cases h1 : turnI a b p = 0
  · rw [h1] at k1
    have K1 := Lib.hid k1
    cases h2 : btB a.x p.x b.x
    · rw [h2] at k2
      have K2 := Lib.hid k2
      have HE := Lib.hid (ron_no2 h2)
      clear k1 k2 k3 h1 h2 hm
      go_enter Try.func13, Try.ntmps13
      go_wp2_with fail
      (with_reducible refine (K1.out _).mono ?_); rintro _ w1 ⟨rfl, l1⟩
      have L1 := Lib.hid (((((Below.refl w.heap.size w).alloc (Nat.le_refl _) _).alloc (by simp) _).alloc (by simp; omega) _).trans (l1.mono (by simp; omega)))
      obtain ⟨hc, hf⟩ := bcell l1
      have p0 : w1.cell? ⟨w.heap.size, 0, none⟩ = some (.int .i64 a.x) := by go_simp
      have p1 : w1.cell? ⟨w.heap.size, 1, none⟩ = some (.int .i64 a.y) := by go_simp
      have p2 : w1.cell? ⟨w.heap.size + 1, 0, none⟩ = some (.int .i64 b.x) := by go_simp
      have p3 : w1.cell? ⟨w.heap.size + 1, 1, none⟩ = some (.int .i64 b.y) := by go_simp
      have p4 : w1.cell? ⟨w.heap.size + 1 + 1, 0, none⟩ = some (.int .i64 p.x) := by go_simp
      have p5 : w1.cell? ⟨w.heap.size + 1 + 1, 1, none⟩ = some (.int .i64 p.y) := by go_simp
      clear l1 hc hf
      go_wp2_with fail
      (with_reducible refine (K2.out _).mono ?_); rintro _ _ ⟨rfl, rfl⟩
      go_wp2
      go_ret
      exact ⟨ret_b HE.out.symm, L1.out⟩
    · rw [h2] at k2
      have K2 := Lib.hid k2
      cases h3 : btB a.y p.y b.y
      · rw [h3] at k3
        have K3 := Lib.hid k3
        have HE := Lib.hid (ron_no3 h3)
        clear k1 k2 k3 h1 h2 h3 hm
        go_enter Try.func13, Try.ntmps13
        go_wp2_with fail
        (with_reducible refine (K1.out _).mono ?_); rintro _ w1 ⟨rfl, l1⟩
        have L1 := Lib.hid (((((Below.refl w.heap.size w).alloc (Nat.le_refl _) _).alloc (by simp) _).alloc (by simp; omega) _).trans (l1.mono (by simp; omega)))
        obtain ⟨hc, hf⟩ := bcell l1
        have p0 : w1.cell? ⟨w.heap.size, 0, none⟩ = some (.int .i64 a.x) := by go_simp
        have p1 : w1.cell? ⟨w.heap.size, 1, none⟩ = some (.int .i64 a.y) := by go_simp
        have p2 : w1.cell? ⟨w.heap.size + 1, 0, none⟩ = some (.int .i64 b.x) := by go_simp
        have p3 : w1.cell? ⟨w.heap.size + 1, 1, none⟩ = some (.int .i64 b.y) := by go_simp
        have p4 : w1.cell? ⟨w.heap.size + 1 + 1, 0, none⟩ = some (.int .i64 p.x) := by go_simp
        have p5 : w1.cell? ⟨w.heap.size + 1 + 1, 1, none⟩ = some (.int .i64 p.y) := by go_simp
        clear l1 hc hf
        go_wp2_with fail
        (with_reducible refine (K2.out _).mono ?_); rintro _ _ ⟨rfl, rfl⟩
        go_wp2_with fail
        (with_reducible refine (K3.out _).mono ?_); rintro _ _ ⟨rfl, rfl⟩
        go_wp2
        go_ret
        exact ⟨ret_b HE.out.symm, L1.out⟩
      · rw [h3] at k3
        have K3 := Lib.hid k3
        have HE := Lib.hid (ron_yes hm h1 h2 h3)
        clear k1 k2 k3 h1 h2 h3 hm
        go_enter Try.func13, Try.ntmps13
        go_wp2_with fail
        (with_reducible refine (K1.out _).mono ?_); rintro _ w1 ⟨rfl, l1⟩
        have L1 := Lib.hid (((((Below.refl w.heap.size w).alloc (Nat.le_refl _) _).alloc (by simp) _).alloc (by simp; omega) _).trans (l1.mono (by simp; omega)))
        obtain ⟨hc, hf⟩ := bcell l1
        have p0 : w1.cell? ⟨w.heap.size, 0, none⟩ = some (.int .i64 a.x) := by go_simp
        have p1 : w1.cell? ⟨w.heap.size, 1, none⟩ = some (.int .i64 a.y) := by go_simp
        have p2 : w1.cell? ⟨w.heap.size + 1, 0, none⟩ = some (.int .i64 b.x) := by go_simp
        have p3 : w1.cell? ⟨w.heap.size + 1, 1, none⟩ = some (.int .i64 b.y) := by go_simp
        have p4 : w1.cell? ⟨w.heap.size + 1 + 1, 0, none⟩ = some (.int .i64 p.x) := by go_simp
        have p5 : w1.cell? ⟨w.heap.size + 1 + 1, 1, none⟩ = some (.int .i64 p.y) := by go_simp
        clear l1 hc hf
        go_wp2_with fail
        (with_reducible refine (K2.out _).mono ?_); rintro _ _ ⟨rfl, rfl⟩
        go_wp2_with fail
        (with_reducible refine (K3.out _).mono ?_); rintro _ _ ⟨rfl, rfl⟩
        go_wp2
        go_ret
        exact ⟨ret_b HE.out.symm, L1.out⟩
  · have HE := Lib.hid (ron_no1 hm h1)
    obtain ⟨t, ht⟩ : ∃ t, t = turnI a b p := ⟨_, rfl⟩
    rw [← ht] at k1 h1
    have htn : (t == 0) = false := by simpa using h1
    have K1 := Lib.hid k1
    clear k1 k2 k3 h1 ht hm
    go_enter Try.func13, Try.ntmps13
    go_wp2_with fail
    (with_reducible refine (K1.out _).mono ?_); rintro _ w1 ⟨rfl, l1⟩
    have L1 := Lib.hid (((((Below.refl w.heap.size w).alloc (Nat.le_refl _) _).alloc (by simp) _).alloc (by simp; omega) _).trans (l1.mono (by simp; omega)))
    obtain ⟨hc, hf⟩ := bcell l1
    have p0 : w1.cell? ⟨w.heap.size, 0, none⟩ = some (.int .i64 a.x) := by go_simp
    have p1 : w1.cell? ⟨w.heap.size, 1, none⟩ = some (.int .i64 a.y) := by go_simp
    have p2 : w1.cell? ⟨w.heap.size + 1, 0, none⟩ = some (.int .i64 b.x) := by go_simp
    have p3 : w1.cell? ⟨w.heap.size + 1, 1, none⟩ = some (.int .i64 b.y) := by go_simp
    have p4 : w1.cell? ⟨w.heap.size + 1 + 1, 0, none⟩ = some (.int .i64 p.x) := by go_simp
    have p5 : w1.cell? ⟨w.heap.size + 1 + 1, 1, none⟩ = some (.int .i64 p.y) := by go_simp
    clear l1 hc hf
    go_wp2
    go_ret
    exact ⟨ret_b HE.out.symm, L1.out⟩
end Go.Proofs.Ytehmdokcdnlcdaa
