/- The document's Distance and Nearest: the walks. (Written by wip/tools/genrefnear.py.) -/
import Derived.Test.YtehmdokcdnlcdaaGRefRect
namespace Go.Proofs.Ytehmdokcdnlcdaa
open Go.RowKit
set_option linter.unusedVariables false

theorem u64_in {n : Int} (h0 : 0 ≤ n) (h1 : n < 18446744073709551616) : IntKind.u64.wrap n = n := by rw [IntKind.wrap_u64]; omega
set_option maxRecDepth 100000 in
set_option maxHeartbeats 4000000 in
theorem refDist_any (a b : Pt) (h : May2 a b) (w : World) : Calls Try.prog 33 #[.agg #[.int .i64 a.x, .int .i64 a.y], .agg #[.int .i64 b.x, .int .i64 b.y]] w fun e w' => e = .returned (.int .u64 (distI a b)) ∧ Below w.heap.size w w' := by
  have hL := Lib.hid (show Below w.heap.size w ((w.alloc (.cells #[.int .i64 a.x, .int .i64 a.y] 23)).alloc (.cells #[.int .i64 b.x, .int .i64 b.y] 23)) from ((Below.refl w.heap.size w).alloc (Nat.le_refl _) _).alloc (by simp) _)
  rw [show distI a b = sqD a b from if_pos h]
  have hs := sqD_bd h
  obtain ⟨ha, hb⟩ := h
  unfold MayP at ha hb
  obtain ⟨a1, a2, a3, a4⟩ := ha
  obtain ⟨b1, b2, b3, b4⟩ := hb
  obtain ⟨x, hx⟩ : ∃ x, x = a.x - b.x := ⟨_, rfl⟩
  obtain ⟨y, hy⟩ : ∃ y, y = a.y - b.y := ⟨_, rfl⟩
  have hw0 : IntKind.i64.wrap (a.x - b.x) = x := by rw [IntKind.wrap_i64]; omega
  have hw1 : IntKind.i64.wrap (a.y - b.y) = y := by rw [IntKind.wrap_i64]; omega
  have hz : sqD a b = x * x + y * y := by unfold sqD; rw [hx, hy]; grind
  have bx := sq_bd (x := x) (A := 3600000000) (by omega) (by omega) (by omega)
  have cy := sq_bd (x := y) (A := 1800000000) (by omega) (by omega) (by omega)
  have HZ := Lib.hid hz
  have bx1 : -3600000000 ≤ x ∧ x ≤ 3600000000 := by omega
  have by1 : -1800000000 ≤ y ∧ y ≤ 1800000000 := by omega
  clear hx hy hs a1 a2 a3 a4 b1 b2 b3 b4 hz
  by_cases h0 : x < 0
  · obtain ⟨n, hn⟩ : ∃ n, n = -x := ⟨_, rfl⟩
    by_cases h1 : y < 0
    · obtain ⟨m, hm⟩ : ∃ m, m = -y := ⟨_, rfl⟩
      obtain ⟨p, hp⟩ : ∃ p, p = n * n := ⟨_, rfl⟩
      obtain ⟨q, hq⟩ : ∃ q, q = m * m := ⟨_, rfl⟩
      have e1 : n * n = x * x := by rw [hn]; exact Int.neg_mul_neg x x
      have e2 : m * m = y * y := by rw [hm]; exact Int.neg_mul_neg y y
      have HP := Lib.hid (show sqD a b = p + q by rw [HZ.out, hp, hq, e1, e2])
      have u1 : IntKind.u64.wrap n = n := u64_in (by omega) (by omega)
      have u2 : IntKind.u64.wrap m = m := u64_in (by omega) (by omega)
      have u3 : IntKind.u64.wrap (n * n) = p := by rw [e1, u64_in (by omega) (by omega), hp, e1]
      have u4 : IntKind.u64.wrap (m * m) = q := by rw [e2, u64_in (by omega) (by omega), hq, e2]
      have u5 : IntKind.u64.wrap (p + q) = p + q := by rw [hp, hq, e1, e2]; exact u64_in (by omega) (by omega)
      have u6 : IntKind.i64.wrap (-x) = n := by rw [IntKind.wrap_i64]; omega
      have u7 : IntKind.i64.wrap (-y) = m := by rw [IntKind.wrap_i64]; omega
      clear hn hm hp hq e1 e2 bx cy bx1 by1 HZ
      go_enter Try.func33, Try.ntmps33
      go_wp2_with fail
      have L1 := hL.out
      have p0 : ((w.alloc (.cells #[.int .i64 a.x, .int .i64 a.y] 23)).alloc (.cells #[.int .i64 b.x, .int .i64 b.y] 23)).cell? ⟨w.heap.size, 0, none⟩ = some (.int .i64 a.x) := by go_simp
      have p1 : ((w.alloc (.cells #[.int .i64 a.x, .int .i64 a.y] 23)).alloc (.cells #[.int .i64 b.x, .int .i64 b.y] 23)).cell? ⟨w.heap.size, 1, none⟩ = some (.int .i64 a.y) := by go_simp
      have p2 : ((w.alloc (.cells #[.int .i64 a.x, .int .i64 a.y] 23)).alloc (.cells #[.int .i64 b.x, .int .i64 b.y] 23)).cell? ⟨w.heap.size + 1, 0, none⟩ = some (.int .i64 b.x) := by go_simp
      have p3 : ((w.alloc (.cells #[.int .i64 a.x, .int .i64 a.y] 23)).alloc (.cells #[.int .i64 b.x, .int .i64 b.y] 23)).cell? ⟨w.heap.size + 1, 1, none⟩ = some (.int .i64 b.y) := by go_simp
      generalize ((w.alloc (.cells #[.int .i64 a.x, .int .i64 a.y] 23)).alloc (.cells #[.int .i64 b.x, .int .i64 b.y] 23)) = B at L1 p0 p1 p2 p3 ⊢
      go_quiet (fail)
      have L2 := Lib.hid (show Below w.heap.size w (B.drewN nq) from L1.trans ⟨rfl, rfl, rfl, Nat.le_refl _, fun _ _ => rfl⟩)
      clear L1 p0 p1 p2 p3 hw0 hw1
      generalize B.drewN nq = w2 at L2 ⊢
      go_wp2
      go_ret
      exact ⟨by rw [HP.out]; rfl, L2.out⟩
    · obtain ⟨m, hm⟩ : ∃ m, m = y := ⟨_, rfl⟩
      obtain ⟨p, hp⟩ : ∃ p, p = n * n := ⟨_, rfl⟩
      obtain ⟨q, hq⟩ : ∃ q, q = m * m := ⟨_, rfl⟩
      have e1 : n * n = x * x := by rw [hn]; exact Int.neg_mul_neg x x
      have e2 : m * m = y * y := by rw [hm]
      have HP := Lib.hid (show sqD a b = p + q by rw [HZ.out, hp, hq, e1, e2])
      have u1 : IntKind.u64.wrap n = n := u64_in (by omega) (by omega)
      have u2 : IntKind.u64.wrap m = m := u64_in (by omega) (by omega)
      have u3 : IntKind.u64.wrap (n * n) = p := by rw [e1, u64_in (by omega) (by omega), hp, e1]
      have u4 : IntKind.u64.wrap (m * m) = q := by rw [e2, u64_in (by omega) (by omega), hq, e2]
      have u5 : IntKind.u64.wrap (p + q) = p + q := by rw [hp, hq, e1, e2]; exact u64_in (by omega) (by omega)
      have u6 : IntKind.i64.wrap (-x) = n := by rw [IntKind.wrap_i64]; omega
      have u7 : y = m := hm.symm
      clear hn hm hp hq e1 e2 bx cy bx1 by1 HZ
      subst u7
      go_enter Try.func33, Try.ntmps33
      go_wp2_with fail
      have L1 := hL.out
      have p0 : ((w.alloc (.cells #[.int .i64 a.x, .int .i64 a.y] 23)).alloc (.cells #[.int .i64 b.x, .int .i64 b.y] 23)).cell? ⟨w.heap.size, 0, none⟩ = some (.int .i64 a.x) := by go_simp
      have p1 : ((w.alloc (.cells #[.int .i64 a.x, .int .i64 a.y] 23)).alloc (.cells #[.int .i64 b.x, .int .i64 b.y] 23)).cell? ⟨w.heap.size, 1, none⟩ = some (.int .i64 a.y) := by go_simp
      have p2 : ((w.alloc (.cells #[.int .i64 a.x, .int .i64 a.y] 23)).alloc (.cells #[.int .i64 b.x, .int .i64 b.y] 23)).cell? ⟨w.heap.size + 1, 0, none⟩ = some (.int .i64 b.x) := by go_simp
      have p3 : ((w.alloc (.cells #[.int .i64 a.x, .int .i64 a.y] 23)).alloc (.cells #[.int .i64 b.x, .int .i64 b.y] 23)).cell? ⟨w.heap.size + 1, 1, none⟩ = some (.int .i64 b.y) := by go_simp
      generalize ((w.alloc (.cells #[.int .i64 a.x, .int .i64 a.y] 23)).alloc (.cells #[.int .i64 b.x, .int .i64 b.y] 23)) = B at L1 p0 p1 p2 p3 ⊢
      go_quiet (fail)
      have L2 := Lib.hid (show Below w.heap.size w (B.drewN nq) from L1.trans ⟨rfl, rfl, rfl, Nat.le_refl _, fun _ _ => rfl⟩)
      clear L1 p0 p1 p2 p3 hw0 hw1
      generalize B.drewN nq = w2 at L2 ⊢
      go_wp2
      go_ret
      exact ⟨by rw [HP.out]; rfl, L2.out⟩
  · obtain ⟨n, hn⟩ : ∃ n, n = x := ⟨_, rfl⟩
    by_cases h1 : y < 0
    · obtain ⟨m, hm⟩ : ∃ m, m = -y := ⟨_, rfl⟩
      obtain ⟨p, hp⟩ : ∃ p, p = n * n := ⟨_, rfl⟩
      obtain ⟨q, hq⟩ : ∃ q, q = m * m := ⟨_, rfl⟩
      have e1 : n * n = x * x := by rw [hn]
      have e2 : m * m = y * y := by rw [hm]; exact Int.neg_mul_neg y y
      have HP := Lib.hid (show sqD a b = p + q by rw [HZ.out, hp, hq, e1, e2])
      have u1 : IntKind.u64.wrap n = n := u64_in (by omega) (by omega)
      have u2 : IntKind.u64.wrap m = m := u64_in (by omega) (by omega)
      have u3 : IntKind.u64.wrap (n * n) = p := by rw [e1, u64_in (by omega) (by omega), hp, e1]
      have u4 : IntKind.u64.wrap (m * m) = q := by rw [e2, u64_in (by omega) (by omega), hq, e2]
      have u5 : IntKind.u64.wrap (p + q) = p + q := by rw [hp, hq, e1, e2]; exact u64_in (by omega) (by omega)
      have u6 : x = n := hn.symm
      have u7 : IntKind.i64.wrap (-y) = m := by rw [IntKind.wrap_i64]; omega
      clear hn hm hp hq e1 e2 bx cy bx1 by1 HZ
      subst u6
      go_enter Try.func33, Try.ntmps33
      go_wp2_with fail
      have L1 := hL.out
      have p0 : ((w.alloc (.cells #[.int .i64 a.x, .int .i64 a.y] 23)).alloc (.cells #[.int .i64 b.x, .int .i64 b.y] 23)).cell? ⟨w.heap.size, 0, none⟩ = some (.int .i64 a.x) := by go_simp
      have p1 : ((w.alloc (.cells #[.int .i64 a.x, .int .i64 a.y] 23)).alloc (.cells #[.int .i64 b.x, .int .i64 b.y] 23)).cell? ⟨w.heap.size, 1, none⟩ = some (.int .i64 a.y) := by go_simp
      have p2 : ((w.alloc (.cells #[.int .i64 a.x, .int .i64 a.y] 23)).alloc (.cells #[.int .i64 b.x, .int .i64 b.y] 23)).cell? ⟨w.heap.size + 1, 0, none⟩ = some (.int .i64 b.x) := by go_simp
      have p3 : ((w.alloc (.cells #[.int .i64 a.x, .int .i64 a.y] 23)).alloc (.cells #[.int .i64 b.x, .int .i64 b.y] 23)).cell? ⟨w.heap.size + 1, 1, none⟩ = some (.int .i64 b.y) := by go_simp
      generalize ((w.alloc (.cells #[.int .i64 a.x, .int .i64 a.y] 23)).alloc (.cells #[.int .i64 b.x, .int .i64 b.y] 23)) = B at L1 p0 p1 p2 p3 ⊢
      go_quiet (fail)
      have L2 := Lib.hid (show Below w.heap.size w (B.drewN nq) from L1.trans ⟨rfl, rfl, rfl, Nat.le_refl _, fun _ _ => rfl⟩)
      clear L1 p0 p1 p2 p3 hw0 hw1
      generalize B.drewN nq = w2 at L2 ⊢
      go_wp2
      go_ret
      exact ⟨by rw [HP.out]; rfl, L2.out⟩
    · obtain ⟨m, hm⟩ : ∃ m, m = y := ⟨_, rfl⟩
      obtain ⟨p, hp⟩ : ∃ p, p = n * n := ⟨_, rfl⟩
      obtain ⟨q, hq⟩ : ∃ q, q = m * m := ⟨_, rfl⟩
      have e1 : n * n = x * x := by rw [hn]
      have e2 : m * m = y * y := by rw [hm]
      have HP := Lib.hid (show sqD a b = p + q by rw [HZ.out, hp, hq, e1, e2])
      have u1 : IntKind.u64.wrap n = n := u64_in (by omega) (by omega)
      have u2 : IntKind.u64.wrap m = m := u64_in (by omega) (by omega)
      have u3 : IntKind.u64.wrap (n * n) = p := by rw [e1, u64_in (by omega) (by omega), hp, e1]
      have u4 : IntKind.u64.wrap (m * m) = q := by rw [e2, u64_in (by omega) (by omega), hq, e2]
      have u5 : IntKind.u64.wrap (p + q) = p + q := by rw [hp, hq, e1, e2]; exact u64_in (by omega) (by omega)
      have u6 : x = n := hn.symm
      have u7 : y = m := hm.symm
      clear hn hm hp hq e1 e2 bx cy bx1 by1 HZ
      subst u6
      subst u7
      go_enter Try.func33, Try.ntmps33
      go_wp2_with fail
      have L1 := hL.out
      have p0 : ((w.alloc (.cells #[.int .i64 a.x, .int .i64 a.y] 23)).alloc (.cells #[.int .i64 b.x, .int .i64 b.y] 23)).cell? ⟨w.heap.size, 0, none⟩ = some (.int .i64 a.x) := by go_simp
      have p1 : ((w.alloc (.cells #[.int .i64 a.x, .int .i64 a.y] 23)).alloc (.cells #[.int .i64 b.x, .int .i64 b.y] 23)).cell? ⟨w.heap.size, 1, none⟩ = some (.int .i64 a.y) := by go_simp
      have p2 : ((w.alloc (.cells #[.int .i64 a.x, .int .i64 a.y] 23)).alloc (.cells #[.int .i64 b.x, .int .i64 b.y] 23)).cell? ⟨w.heap.size + 1, 0, none⟩ = some (.int .i64 b.x) := by go_simp
      have p3 : ((w.alloc (.cells #[.int .i64 a.x, .int .i64 a.y] 23)).alloc (.cells #[.int .i64 b.x, .int .i64 b.y] 23)).cell? ⟨w.heap.size + 1, 1, none⟩ = some (.int .i64 b.y) := by go_simp
      generalize ((w.alloc (.cells #[.int .i64 a.x, .int .i64 a.y] 23)).alloc (.cells #[.int .i64 b.x, .int .i64 b.y] 23)) = B at L1 p0 p1 p2 p3 ⊢
      go_quiet (fail)
      have L2 := Lib.hid (show Below w.heap.size w (B.drewN nq) from L1.trans ⟨rfl, rfl, rfl, Nat.le_refl _, fun _ _ => rfl⟩)
      clear L1 p0 p1 p2 p3 hw0 hw1
      generalize B.drewN nq = w2 at L2 ⊢
      go_wp2
      go_ret
      exact ⟨by rw [HP.out]; rfl, L2.out⟩
theorem rc_cells (w : World) (r : Rc) (p : Pt) : Below w.heap.size w (((w.alloc (.cells #[.int .i64 r.x0, .int .i64 r.y0, .int .i64 r.x1, .int .i64 r.y1] 36)).alloc (.cells #[.int .i64 p.x, .int .i64 p.y] 23)).alloc (.cells #[.int .i64 p.x, .int .i64 p.y] 23)) := (((Below.refl _ _).alloc (Nat.le_refl _) _).alloc (by simp) _).alloc (by simp; omega) _
set_option maxRecDepth 100000 in
set_option maxHeartbeats 8000000 in
theorem refNear_any (r : Rc) (p : Pt) (hr : MayR r) (hp : MayP p) (w : World) : Calls Try.prog 32 #[vR r, .agg #[.int .i64 p.x, .int .i64 p.y]] w fun e w' => e = .returned (.int .u64 (nearI r p)) ∧ Below w.heap.size w w' := by
  have k := fun W => refDist_any p (clampP r p) ⟨hp, (clamp_may p hr).1⟩ W
  have he : nearI r p = distI p (clampP r p) := by unfold nearI; rw [show mayRB r = true from decide_eq_true hr]; rfl
  rw [he]
  obtain ⟨d, hd⟩ : ∃ d, d = distI p (clampP r p) := ⟨_, rfl⟩
  rw [← hd] at k ⊢
  clear he hd
  have k2 : ∀ W : World, Calls Try.prog 33 #[.agg #[.int .i64 p.x, .int .i64 p.y], .agg #[.int .i64 (min (max p.x r.x0) r.x1), .int .i64 (min (max p.y r.y0) r.y1)]] W fun e w' => e = .returned (.int .u64 d) ∧ Below W.heap.size W w' := k
  clear k
  obtain ⟨_, _, hx, hy⟩ := hr
  clear hp
  have hxx : ¬ r.x1 < r.x0 := by omega
  have hyy : ¬ r.y1 < r.y0 := by omega
  have hx2 : decide (r.x1 < r.x0) = false := decide_eq_false hxx
  have hy2 : decide (r.y1 < r.y0) = false := decide_eq_false hyy
  by_cases a0 : p.x < r.x0
  · have ad : decide (p.x < r.x0) = true := decide_eq_true a0
    by_cases b0 : p.y < r.y0
    · have bd : decide (p.y < r.y0) = true := decide_eq_true b0
      have K := Lib.hid (show ∀ W : World, Calls Try.prog 33 #[.agg #[.int .i64 p.x, .int .i64 p.y], .agg #[.int .i64 r.x0, .int .i64 r.y0]] W fun e w' => e = .returned (.int .u64 d) ∧ Below W.heap.size W w' by rw [show min (max p.x r.x0) r.x1 = r.x0 by omega, show min (max p.y r.y0) r.y1 = r.y0 by omega] at k2; exact k2)
      clear k2
      go_enter Try.func32, Try.ntmps32
      go_wp2_with fail
      (with_reducible refine (K.out _).mono ?_); rintro _ w1 ⟨rfl, l1⟩
      have L1 := Lib.hid (show Below w.heap.size w w1 from Below.trans (by first | exact (((Below.refl _ _).alloc (Nat.le_refl _) _).alloc (by simp) _).alloc (by simp; omega) _ | exact rc_cells w r p) (l1.mono (by simp; omega)))
      clear l1
      go_wp2
      go_ret
      exact ⟨rfl, L1.out⟩
    · have bd : decide (p.y < r.y0) = false := decide_eq_false b0
      by_cases b1 : r.y1 < p.y
      · have be : decide (r.y1 < p.y) = true := decide_eq_true b1
        have K := Lib.hid (show ∀ W : World, Calls Try.prog 33 #[.agg #[.int .i64 p.x, .int .i64 p.y], .agg #[.int .i64 r.x0, .int .i64 r.y1]] W fun e w' => e = .returned (.int .u64 d) ∧ Below W.heap.size W w' by rw [show min (max p.x r.x0) r.x1 = r.x0 by omega, show min (max p.y r.y0) r.y1 = r.y1 by omega] at k2; exact k2)
        clear k2
        go_enter Try.func32, Try.ntmps32
        go_wp2_with fail
        (with_reducible refine (K.out _).mono ?_); rintro _ w1 ⟨rfl, l1⟩
        have L1 := Lib.hid (show Below w.heap.size w w1 from Below.trans (by first | exact (((Below.refl _ _).alloc (Nat.le_refl _) _).alloc (by simp) _).alloc (by simp; omega) _ | exact rc_cells w r p) (l1.mono (by simp; omega)))
        clear l1
        go_wp2
        go_ret
        exact ⟨rfl, L1.out⟩
      · have be : decide (r.y1 < p.y) = false := decide_eq_false b1
        have K := Lib.hid (show ∀ W : World, Calls Try.prog 33 #[.agg #[.int .i64 p.x, .int .i64 p.y], .agg #[.int .i64 r.x0, .int .i64 p.y]] W fun e w' => e = .returned (.int .u64 d) ∧ Below W.heap.size W w' by rw [show min (max p.x r.x0) r.x1 = r.x0 by omega, show min (max p.y r.y0) r.y1 = p.y by omega] at k2; exact k2)
        clear k2
        go_enter Try.func32, Try.ntmps32
        go_wp2_with fail
        (with_reducible refine (K.out _).mono ?_); rintro _ w1 ⟨rfl, l1⟩
        have L1 := Lib.hid (show Below w.heap.size w w1 from Below.trans (by first | exact (((Below.refl _ _).alloc (Nat.le_refl _) _).alloc (by simp) _).alloc (by simp; omega) _ | exact rc_cells w r p) (l1.mono (by simp; omega)))
        clear l1
        go_wp2
        go_ret
        exact ⟨rfl, L1.out⟩
  · have ad : decide (p.x < r.x0) = false := decide_eq_false a0
    by_cases a1 : r.x1 < p.x
    · have ae : decide (r.x1 < p.x) = true := decide_eq_true a1
      by_cases b0 : p.y < r.y0
      · have bd : decide (p.y < r.y0) = true := decide_eq_true b0
        have K := Lib.hid (show ∀ W : World, Calls Try.prog 33 #[.agg #[.int .i64 p.x, .int .i64 p.y], .agg #[.int .i64 r.x1, .int .i64 r.y0]] W fun e w' => e = .returned (.int .u64 d) ∧ Below W.heap.size W w' by rw [show min (max p.x r.x0) r.x1 = r.x1 by omega, show min (max p.y r.y0) r.y1 = r.y0 by omega] at k2; exact k2)
        clear k2
        go_enter Try.func32, Try.ntmps32
        go_wp2_with fail
        (with_reducible refine (K.out _).mono ?_); rintro _ w1 ⟨rfl, l1⟩
        have L1 := Lib.hid (show Below w.heap.size w w1 from Below.trans (by first | exact (((Below.refl _ _).alloc (Nat.le_refl _) _).alloc (by simp) _).alloc (by simp; omega) _ | exact rc_cells w r p) (l1.mono (by simp; omega)))
        clear l1
        go_wp2
        go_ret
        exact ⟨rfl, L1.out⟩
      · have bd : decide (p.y < r.y0) = false := decide_eq_false b0
        by_cases b1 : r.y1 < p.y
        · have be : decide (r.y1 < p.y) = true := decide_eq_true b1
          have K := Lib.hid (show ∀ W : World, Calls Try.prog 33 #[.agg #[.int .i64 p.x, .int .i64 p.y], .agg #[.int .i64 r.x1, .int .i64 r.y1]] W fun e w' => e = .returned (.int .u64 d) ∧ Below W.heap.size W w' by rw [show min (max p.x r.x0) r.x1 = r.x1 by omega, show min (max p.y r.y0) r.y1 = r.y1 by omega] at k2; exact k2)
          clear k2
          go_enter Try.func32, Try.ntmps32
          go_wp2_with fail
          (with_reducible refine (K.out _).mono ?_); rintro _ w1 ⟨rfl, l1⟩
          have L1 := Lib.hid (show Below w.heap.size w w1 from Below.trans (by first | exact (((Below.refl _ _).alloc (Nat.le_refl _) _).alloc (by simp) _).alloc (by simp; omega) _ | exact rc_cells w r p) (l1.mono (by simp; omega)))
          clear l1
          go_wp2
          go_ret
          exact ⟨rfl, L1.out⟩
        · have be : decide (r.y1 < p.y) = false := decide_eq_false b1
          have K := Lib.hid (show ∀ W : World, Calls Try.prog 33 #[.agg #[.int .i64 p.x, .int .i64 p.y], .agg #[.int .i64 r.x1, .int .i64 p.y]] W fun e w' => e = .returned (.int .u64 d) ∧ Below W.heap.size W w' by rw [show min (max p.x r.x0) r.x1 = r.x1 by omega, show min (max p.y r.y0) r.y1 = p.y by omega] at k2; exact k2)
          clear k2
          go_enter Try.func32, Try.ntmps32
          go_wp2_with fail
          (with_reducible refine (K.out _).mono ?_); rintro _ w1 ⟨rfl, l1⟩
          have L1 := Lib.hid (show Below w.heap.size w w1 from Below.trans (by first | exact (((Below.refl _ _).alloc (Nat.le_refl _) _).alloc (by simp) _).alloc (by simp; omega) _ | exact rc_cells w r p) (l1.mono (by simp; omega)))
          clear l1
          go_wp2
          go_ret
          exact ⟨rfl, L1.out⟩
    · have ae : decide (r.x1 < p.x) = false := decide_eq_false a1
      by_cases b0 : p.y < r.y0
      · have bd : decide (p.y < r.y0) = true := decide_eq_true b0
        have K := Lib.hid (show ∀ W : World, Calls Try.prog 33 #[.agg #[.int .i64 p.x, .int .i64 p.y], .agg #[.int .i64 p.x, .int .i64 r.y0]] W fun e w' => e = .returned (.int .u64 d) ∧ Below W.heap.size W w' by rw [show min (max p.x r.x0) r.x1 = p.x by omega, show min (max p.y r.y0) r.y1 = r.y0 by omega] at k2; exact k2)
        clear k2
        go_enter Try.func32, Try.ntmps32
        go_wp2_with fail
        (with_reducible refine (K.out _).mono ?_); rintro _ w1 ⟨rfl, l1⟩
        have L1 := Lib.hid (show Below w.heap.size w w1 from Below.trans (by first | exact (((Below.refl _ _).alloc (Nat.le_refl _) _).alloc (by simp) _).alloc (by simp; omega) _ | exact rc_cells w r p) (l1.mono (by simp; omega)))
        clear l1
        go_wp2
        go_ret
        exact ⟨rfl, L1.out⟩
      · have bd : decide (p.y < r.y0) = false := decide_eq_false b0
        by_cases b1 : r.y1 < p.y
        · have be : decide (r.y1 < p.y) = true := decide_eq_true b1
          have K := Lib.hid (show ∀ W : World, Calls Try.prog 33 #[.agg #[.int .i64 p.x, .int .i64 p.y], .agg #[.int .i64 p.x, .int .i64 r.y1]] W fun e w' => e = .returned (.int .u64 d) ∧ Below W.heap.size W w' by rw [show min (max p.x r.x0) r.x1 = p.x by omega, show min (max p.y r.y0) r.y1 = r.y1 by omega] at k2; exact k2)
          clear k2
          go_enter Try.func32, Try.ntmps32
          go_wp2_with fail
          (with_reducible refine (K.out _).mono ?_); rintro _ w1 ⟨rfl, l1⟩
          have L1 := Lib.hid (show Below w.heap.size w w1 from Below.trans (by first | exact (((Below.refl _ _).alloc (Nat.le_refl _) _).alloc (by simp) _).alloc (by simp; omega) _ | exact rc_cells w r p) (l1.mono (by simp; omega)))
          clear l1
          go_wp2
          go_ret
          exact ⟨rfl, L1.out⟩
        · have be : decide (r.y1 < p.y) = false := decide_eq_false b1
          have K := Lib.hid (show ∀ W : World, Calls Try.prog 33 #[.agg #[.int .i64 p.x, .int .i64 p.y], .agg #[.int .i64 p.x, .int .i64 p.y]] W fun e w' => e = .returned (.int .u64 d) ∧ Below W.heap.size W w' by rw [show min (max p.x r.x0) r.x1 = p.x by omega, show min (max p.y r.y0) r.y1 = p.y by omega] at k2; exact k2)
          clear k2
          go_enter Try.func32, Try.ntmps32
          go_wp2_with fail
          (with_reducible refine (K.out _).mono ?_); rintro _ w1 ⟨rfl, l1⟩
          have L1 := Lib.hid (show Below w.heap.size w w1 from Below.trans (by first | exact (((Below.refl _ _).alloc (Nat.le_refl _) _).alloc (by simp) _).alloc (by simp; omega) _ | exact rc_cells w r p) (l1.mono (by simp; omega)))
          clear l1
          go_wp2
          go_ret
          exact ⟨rfl, L1.out⟩
end Go.Proofs.Ytehmdokcdnlcdaa
