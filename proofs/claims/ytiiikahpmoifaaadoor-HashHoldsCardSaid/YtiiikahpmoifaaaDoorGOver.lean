/- geom's Overlap and Holds: the walks. -/
import Derived.Test.YtiiikahpmoifaaaDoorGRect
namespace Go.Proofs.YtiiikahpmoifaaaDoor
open Go.RowKit
set_option linter.unusedVariables false


theorem ov_yes {r s : Rc} (hr : MayR r) (hs : MayR s) (h : OvP r s) : ovB r s = true := decide_eq_true ⟨hr, hs, h⟩
theorem ov_no {r s : Rc} (h : ¬ (MayR r ∧ MayR s ∧ OvP r s)) : ovB r s = false := decide_eq_false h
set_option maxRecDepth 100000 in
set_option maxHeartbeats 8000000 in
theorem overlap_any (r s : Rc) (w : World) : Calls Tryd.prog 33 #[.agg #[.int .i64 r.x0, .int .i64 r.y0, .int .i64 r.x1, .int .i64 r.y1], .agg #[.int .i64 s.x0, .int .i64 s.y0, .int .i64 s.x1, .int .i64 s.y1]] w fun e w' => e = .returned (.bool (ovB r s)) ∧ Below w.heap.size w w' := by
  have kr := fun W => mayRect_any r W
  have ks := fun W => mayRect_any s W
  by_cases hr : MayR r
  · rw [show mayRB r = true from decide_eq_true hr] at kr
    have KR := Lib.hid kr
    clear kr
    by_cases hs : MayR s
    · rw [show mayRB s = true from decide_eq_true hs] at ks
      have KS := Lib.hid ks
      clear ks
      by_cases h1 : r.x0 ≤ s.x1
      · by_cases h2 : s.x0 ≤ r.x1
        · by_cases h3 : r.y0 ≤ s.y1
          · by_cases h4 : s.y0 ≤ r.y1
            · have HE := Lib.hid (ov_yes hr hs ⟨h1, h2, h3, h4⟩)
              clear hr hs
              go_enter Tryd.func33, Tryd.ntmps33
              go_wp2_with fail
              (with_reducible refine (KR.out _).mono ?_); rintro _ w1 ⟨rfl, l1⟩
              have L1 := Lib.hid ((((Below.refl w.heap.size w).alloc (Nat.le_refl _) _).alloc (by simp) _).trans (l1.mono (by simp; omega)))
              obtain ⟨hc, hf⟩ := bcell l1
              have c0 : w1.cell? ⟨w.heap.size, 0, none⟩ = some (.int .i64 r.x0) := by go_simp
              have c1 : w1.cell? ⟨w.heap.size, 1, none⟩ = some (.int .i64 r.y0) := by go_simp
              have c2 : w1.cell? ⟨w.heap.size, 2, none⟩ = some (.int .i64 r.x1) := by go_simp
              have c3 : w1.cell? ⟨w.heap.size, 3, none⟩ = some (.int .i64 r.y1) := by go_simp
              have c4 : w1.cell? ⟨w.heap.size + 1, 0, none⟩ = some (.int .i64 s.x0) := by go_simp
              have c5 : w1.cell? ⟨w.heap.size + 1, 1, none⟩ = some (.int .i64 s.y0) := by go_simp
              have c6 : w1.cell? ⟨w.heap.size + 1, 2, none⟩ = some (.int .i64 s.x1) := by go_simp
              have c7 : w1.cell? ⟨w.heap.size + 1, 3, none⟩ = some (.int .i64 s.y1) := by go_simp
              clear l1 hc hf
              go_wp2_with fail
              (with_reducible refine (KS.out _).mono ?_); rintro _ w2 ⟨rfl, l2⟩
              have L2 := Lib.hid (below2' L1.out l2)
              have d0 := kp' l2 (cell_lt' c0) c0
              have d1 := kp' l2 (cell_lt' c1) c1
              have d2 := kp' l2 (cell_lt' c2) c2
              have d3 := kp' l2 (cell_lt' c3) c3
              have d4 := kp' l2 (cell_lt' c4) c4
              have d5 := kp' l2 (cell_lt' c5) c5
              have d6 := kp' l2 (cell_lt' c6) c6
              have d7 := kp' l2 (cell_lt' c7) c7
              clear l2 c0 c1 c2 c3 c4 c5 c6 c7
              go_wp2
              go_ret
              exact ⟨ret_b (by first | exact HE.out.symm | (rw [HE.out]; simp; omega)), L2.out⟩
            · have HE := Lib.hid (ov_no (r := r) (s := s) fun h => h4 h.2.2.2.2.2)
              clear hr hs
              go_enter Tryd.func33, Tryd.ntmps33
              go_wp2_with fail
              (with_reducible refine (KR.out _).mono ?_); rintro _ w1 ⟨rfl, l1⟩
              have L1 := Lib.hid ((((Below.refl w.heap.size w).alloc (Nat.le_refl _) _).alloc (by simp) _).trans (l1.mono (by simp; omega)))
              obtain ⟨hc, hf⟩ := bcell l1
              have c0 : w1.cell? ⟨w.heap.size, 0, none⟩ = some (.int .i64 r.x0) := by go_simp
              have c1 : w1.cell? ⟨w.heap.size, 1, none⟩ = some (.int .i64 r.y0) := by go_simp
              have c2 : w1.cell? ⟨w.heap.size, 2, none⟩ = some (.int .i64 r.x1) := by go_simp
              have c3 : w1.cell? ⟨w.heap.size, 3, none⟩ = some (.int .i64 r.y1) := by go_simp
              have c4 : w1.cell? ⟨w.heap.size + 1, 0, none⟩ = some (.int .i64 s.x0) := by go_simp
              have c5 : w1.cell? ⟨w.heap.size + 1, 1, none⟩ = some (.int .i64 s.y0) := by go_simp
              have c6 : w1.cell? ⟨w.heap.size + 1, 2, none⟩ = some (.int .i64 s.x1) := by go_simp
              have c7 : w1.cell? ⟨w.heap.size + 1, 3, none⟩ = some (.int .i64 s.y1) := by go_simp
              clear l1 hc hf
              go_wp2_with fail
              (with_reducible refine (KS.out _).mono ?_); rintro _ w2 ⟨rfl, l2⟩
              have L2 := Lib.hid (below2' L1.out l2)
              have d0 := kp' l2 (cell_lt' c0) c0
              have d1 := kp' l2 (cell_lt' c1) c1
              have d2 := kp' l2 (cell_lt' c2) c2
              have d3 := kp' l2 (cell_lt' c3) c3
              have d4 := kp' l2 (cell_lt' c4) c4
              have d5 := kp' l2 (cell_lt' c5) c5
              have d6 := kp' l2 (cell_lt' c6) c6
              have d7 := kp' l2 (cell_lt' c7) c7
              clear l2 c0 c1 c2 c3 c4 c5 c6 c7
              go_wp2
              go_ret
              exact ⟨ret_b (by first | exact HE.out.symm | (rw [HE.out]; simp; omega)), L2.out⟩
          · have HE := Lib.hid (ov_no (r := r) (s := s) fun h => h3 h.2.2.2.2.1)
            clear hr hs
            go_enter Tryd.func33, Tryd.ntmps33
            go_wp2_with fail
            (with_reducible refine (KR.out _).mono ?_); rintro _ w1 ⟨rfl, l1⟩
            have L1 := Lib.hid ((((Below.refl w.heap.size w).alloc (Nat.le_refl _) _).alloc (by simp) _).trans (l1.mono (by simp; omega)))
            obtain ⟨hc, hf⟩ := bcell l1
            have c0 : w1.cell? ⟨w.heap.size, 0, none⟩ = some (.int .i64 r.x0) := by go_simp
            have c1 : w1.cell? ⟨w.heap.size, 1, none⟩ = some (.int .i64 r.y0) := by go_simp
            have c2 : w1.cell? ⟨w.heap.size, 2, none⟩ = some (.int .i64 r.x1) := by go_simp
            have c3 : w1.cell? ⟨w.heap.size, 3, none⟩ = some (.int .i64 r.y1) := by go_simp
            have c4 : w1.cell? ⟨w.heap.size + 1, 0, none⟩ = some (.int .i64 s.x0) := by go_simp
            have c5 : w1.cell? ⟨w.heap.size + 1, 1, none⟩ = some (.int .i64 s.y0) := by go_simp
            have c6 : w1.cell? ⟨w.heap.size + 1, 2, none⟩ = some (.int .i64 s.x1) := by go_simp
            have c7 : w1.cell? ⟨w.heap.size + 1, 3, none⟩ = some (.int .i64 s.y1) := by go_simp
            clear l1 hc hf
            go_wp2_with fail
            (with_reducible refine (KS.out _).mono ?_); rintro _ w2 ⟨rfl, l2⟩
            have L2 := Lib.hid (below2' L1.out l2)
            have d0 := kp' l2 (cell_lt' c0) c0
            have d1 := kp' l2 (cell_lt' c1) c1
            have d2 := kp' l2 (cell_lt' c2) c2
            have d3 := kp' l2 (cell_lt' c3) c3
            have d4 := kp' l2 (cell_lt' c4) c4
            have d5 := kp' l2 (cell_lt' c5) c5
            have d6 := kp' l2 (cell_lt' c6) c6
            have d7 := kp' l2 (cell_lt' c7) c7
            clear l2 c0 c1 c2 c3 c4 c5 c6 c7
            go_wp2
            go_ret
            exact ⟨ret_b (by first | exact HE.out.symm | (rw [HE.out]; simp; omega)), L2.out⟩
        · have HE := Lib.hid (ov_no (r := r) (s := s) fun h => h2 h.2.2.2.1)
          clear hr hs
          go_enter Tryd.func33, Tryd.ntmps33
          go_wp2_with fail
          (with_reducible refine (KR.out _).mono ?_); rintro _ w1 ⟨rfl, l1⟩
          have L1 := Lib.hid ((((Below.refl w.heap.size w).alloc (Nat.le_refl _) _).alloc (by simp) _).trans (l1.mono (by simp; omega)))
          obtain ⟨hc, hf⟩ := bcell l1
          have c0 : w1.cell? ⟨w.heap.size, 0, none⟩ = some (.int .i64 r.x0) := by go_simp
          have c1 : w1.cell? ⟨w.heap.size, 1, none⟩ = some (.int .i64 r.y0) := by go_simp
          have c2 : w1.cell? ⟨w.heap.size, 2, none⟩ = some (.int .i64 r.x1) := by go_simp
          have c3 : w1.cell? ⟨w.heap.size, 3, none⟩ = some (.int .i64 r.y1) := by go_simp
          have c4 : w1.cell? ⟨w.heap.size + 1, 0, none⟩ = some (.int .i64 s.x0) := by go_simp
          have c5 : w1.cell? ⟨w.heap.size + 1, 1, none⟩ = some (.int .i64 s.y0) := by go_simp
          have c6 : w1.cell? ⟨w.heap.size + 1, 2, none⟩ = some (.int .i64 s.x1) := by go_simp
          have c7 : w1.cell? ⟨w.heap.size + 1, 3, none⟩ = some (.int .i64 s.y1) := by go_simp
          clear l1 hc hf
          go_wp2_with fail
          (with_reducible refine (KS.out _).mono ?_); rintro _ w2 ⟨rfl, l2⟩
          have L2 := Lib.hid (below2' L1.out l2)
          have d0 := kp' l2 (cell_lt' c0) c0
          have d1 := kp' l2 (cell_lt' c1) c1
          have d2 := kp' l2 (cell_lt' c2) c2
          have d3 := kp' l2 (cell_lt' c3) c3
          have d4 := kp' l2 (cell_lt' c4) c4
          have d5 := kp' l2 (cell_lt' c5) c5
          have d6 := kp' l2 (cell_lt' c6) c6
          have d7 := kp' l2 (cell_lt' c7) c7
          clear l2 c0 c1 c2 c3 c4 c5 c6 c7
          go_wp2
          go_ret
          exact ⟨ret_b (by first | exact HE.out.symm | (rw [HE.out]; simp; omega)), L2.out⟩
      · have HE := Lib.hid (ov_no (r := r) (s := s) fun h => h1 h.2.2.1)
        clear hr hs
        go_enter Tryd.func33, Tryd.ntmps33
        go_wp2_with fail
        (with_reducible refine (KR.out _).mono ?_); rintro _ w1 ⟨rfl, l1⟩
        have L1 := Lib.hid ((((Below.refl w.heap.size w).alloc (Nat.le_refl _) _).alloc (by simp) _).trans (l1.mono (by simp; omega)))
        obtain ⟨hc, hf⟩ := bcell l1
        have c0 : w1.cell? ⟨w.heap.size, 0, none⟩ = some (.int .i64 r.x0) := by go_simp
        have c1 : w1.cell? ⟨w.heap.size, 1, none⟩ = some (.int .i64 r.y0) := by go_simp
        have c2 : w1.cell? ⟨w.heap.size, 2, none⟩ = some (.int .i64 r.x1) := by go_simp
        have c3 : w1.cell? ⟨w.heap.size, 3, none⟩ = some (.int .i64 r.y1) := by go_simp
        have c4 : w1.cell? ⟨w.heap.size + 1, 0, none⟩ = some (.int .i64 s.x0) := by go_simp
        have c5 : w1.cell? ⟨w.heap.size + 1, 1, none⟩ = some (.int .i64 s.y0) := by go_simp
        have c6 : w1.cell? ⟨w.heap.size + 1, 2, none⟩ = some (.int .i64 s.x1) := by go_simp
        have c7 : w1.cell? ⟨w.heap.size + 1, 3, none⟩ = some (.int .i64 s.y1) := by go_simp
        clear l1 hc hf
        go_wp2_with fail
        (with_reducible refine (KS.out _).mono ?_); rintro _ w2 ⟨rfl, l2⟩
        have L2 := Lib.hid (below2' L1.out l2)
        have d0 := kp' l2 (cell_lt' c0) c0
        have d1 := kp' l2 (cell_lt' c1) c1
        have d2 := kp' l2 (cell_lt' c2) c2
        have d3 := kp' l2 (cell_lt' c3) c3
        have d4 := kp' l2 (cell_lt' c4) c4
        have d5 := kp' l2 (cell_lt' c5) c5
        have d6 := kp' l2 (cell_lt' c6) c6
        have d7 := kp' l2 (cell_lt' c7) c7
        clear l2 c0 c1 c2 c3 c4 c5 c6 c7
        go_wp2
        go_ret
        exact ⟨ret_b (by first | exact HE.out.symm | (rw [HE.out]; simp; omega)), L2.out⟩
    · rw [show mayRB s = false from decide_eq_false hs] at ks
      have KS := Lib.hid ks
      have HE := Lib.hid (ov_no (r := r) (s := s) fun h => hs h.2.1)
      clear ks hr hs
      go_enter Tryd.func33, Tryd.ntmps33
      go_wp2_with fail
      (with_reducible refine (KR.out _).mono ?_); rintro _ w1 ⟨rfl, l1⟩
      have L1 := Lib.hid ((((Below.refl w.heap.size w).alloc (Nat.le_refl _) _).alloc (by simp) _).trans (l1.mono (by simp; omega)))
      obtain ⟨hc, hf⟩ := bcell l1
      have c0 : w1.cell? ⟨w.heap.size, 0, none⟩ = some (.int .i64 r.x0) := by go_simp
      have c1 : w1.cell? ⟨w.heap.size, 1, none⟩ = some (.int .i64 r.y0) := by go_simp
      have c2 : w1.cell? ⟨w.heap.size, 2, none⟩ = some (.int .i64 r.x1) := by go_simp
      have c3 : w1.cell? ⟨w.heap.size, 3, none⟩ = some (.int .i64 r.y1) := by go_simp
      have c4 : w1.cell? ⟨w.heap.size + 1, 0, none⟩ = some (.int .i64 s.x0) := by go_simp
      have c5 : w1.cell? ⟨w.heap.size + 1, 1, none⟩ = some (.int .i64 s.y0) := by go_simp
      have c6 : w1.cell? ⟨w.heap.size + 1, 2, none⟩ = some (.int .i64 s.x1) := by go_simp
      have c7 : w1.cell? ⟨w.heap.size + 1, 3, none⟩ = some (.int .i64 s.y1) := by go_simp
      clear l1 hc hf
      go_wp2_with fail
      (with_reducible refine (KS.out _).mono ?_); rintro _ w2 ⟨rfl, l2⟩
      have L2 := Lib.hid (below2' L1.out l2)
      have d0 := kp' l2 (cell_lt' c0) c0
      have d1 := kp' l2 (cell_lt' c1) c1
      have d2 := kp' l2 (cell_lt' c2) c2
      have d3 := kp' l2 (cell_lt' c3) c3
      have d4 := kp' l2 (cell_lt' c4) c4
      have d5 := kp' l2 (cell_lt' c5) c5
      have d6 := kp' l2 (cell_lt' c6) c6
      have d7 := kp' l2 (cell_lt' c7) c7
      clear l2 c0 c1 c2 c3 c4 c5 c6 c7

      go_wp2
      go_ret
      exact ⟨ret_b HE.out.symm, L2.out⟩
  · rw [show mayRB r = false from decide_eq_false hr] at kr
    have KR := Lib.hid kr
    have HE := Lib.hid (ov_no (r := r) (s := s) fun h => hr h.1)
    clear kr ks hr
    go_enter Tryd.func33, Tryd.ntmps33
    go_wp2_with fail
    (with_reducible refine (KR.out _).mono ?_); rintro _ w1 ⟨rfl, l1⟩
    have L1 := Lib.hid ((((Below.refl w.heap.size w).alloc (Nat.le_refl _) _).alloc (by simp) _).trans (l1.mono (by simp; omega)))
    obtain ⟨hc, hf⟩ := bcell l1
    have c0 : w1.cell? ⟨w.heap.size, 0, none⟩ = some (.int .i64 r.x0) := by go_simp
    have c1 : w1.cell? ⟨w.heap.size, 1, none⟩ = some (.int .i64 r.y0) := by go_simp
    have c2 : w1.cell? ⟨w.heap.size, 2, none⟩ = some (.int .i64 r.x1) := by go_simp
    have c3 : w1.cell? ⟨w.heap.size, 3, none⟩ = some (.int .i64 r.y1) := by go_simp
    have c4 : w1.cell? ⟨w.heap.size + 1, 0, none⟩ = some (.int .i64 s.x0) := by go_simp
    have c5 : w1.cell? ⟨w.heap.size + 1, 1, none⟩ = some (.int .i64 s.y0) := by go_simp
    have c6 : w1.cell? ⟨w.heap.size + 1, 2, none⟩ = some (.int .i64 s.x1) := by go_simp
    have c7 : w1.cell? ⟨w.heap.size + 1, 3, none⟩ = some (.int .i64 s.y1) := by go_simp
    clear l1 hc hf

    go_wp2
    go_ret
    exact ⟨ret_b HE.out.symm, L1.out⟩
theorem s6_start (w : World) (r : Rc) (p : Pt) : Below w.heap.size w ((w.alloc (.cells #[.int .i64 r.x0, .int .i64 r.y0, .int .i64 r.x1, .int .i64 r.y1] 32)).alloc (.cells #[.int .i64 p.x, .int .i64 p.y] 23)) ∧ (((w.alloc (.cells #[.int .i64 r.x0, .int .i64 r.y0, .int .i64 r.x1, .int .i64 r.y1] 32)).alloc (.cells #[.int .i64 p.x, .int .i64 p.y] 23))).cell? ⟨w.heap.size, 0, none⟩ = some (.int .i64 r.x0) ∧ (((w.alloc (.cells #[.int .i64 r.x0, .int .i64 r.y0, .int .i64 r.x1, .int .i64 r.y1] 32)).alloc (.cells #[.int .i64 p.x, .int .i64 p.y] 23))).cell? ⟨w.heap.size, 1, none⟩ = some (.int .i64 r.y0) ∧ (((w.alloc (.cells #[.int .i64 r.x0, .int .i64 r.y0, .int .i64 r.x1, .int .i64 r.y1] 32)).alloc (.cells #[.int .i64 p.x, .int .i64 p.y] 23))).cell? ⟨w.heap.size, 2, none⟩ = some (.int .i64 r.x1) ∧ (((w.alloc (.cells #[.int .i64 r.x0, .int .i64 r.y0, .int .i64 r.x1, .int .i64 r.y1] 32)).alloc (.cells #[.int .i64 p.x, .int .i64 p.y] 23))).cell? ⟨w.heap.size, 3, none⟩ = some (.int .i64 r.y1) ∧ (((w.alloc (.cells #[.int .i64 r.x0, .int .i64 r.y0, .int .i64 r.x1, .int .i64 r.y1] 32)).alloc (.cells #[.int .i64 p.x, .int .i64 p.y] 23))).cell? ⟨w.heap.size + 1, 0, none⟩ = some (.int .i64 p.x) ∧ (((w.alloc (.cells #[.int .i64 r.x0, .int .i64 r.y0, .int .i64 r.x1, .int .i64 r.y1] 32)).alloc (.cells #[.int .i64 p.x, .int .i64 p.y] 23))).cell? ⟨w.heap.size + 1, 1, none⟩ = some (.int .i64 p.y) := by
  refine ⟨((Below.refl w.heap.size w).alloc (Nat.le_refl _) _).alloc (by simp) _, ?_, ?_, ?_, ?_, ?_, ?_⟩ <;> go_simp
theorem s6_keep {w W W' : World} {r : Rc} {p : Pt} (l : Below W.heap.size W W') (h : Below w.heap.size w W ∧ W.cell? ⟨w.heap.size, 0, none⟩ = some (.int .i64 r.x0) ∧ W.cell? ⟨w.heap.size, 1, none⟩ = some (.int .i64 r.y0) ∧ W.cell? ⟨w.heap.size, 2, none⟩ = some (.int .i64 r.x1) ∧ W.cell? ⟨w.heap.size, 3, none⟩ = some (.int .i64 r.y1) ∧ W.cell? ⟨w.heap.size + 1, 0, none⟩ = some (.int .i64 p.x) ∧ W.cell? ⟨w.heap.size + 1, 1, none⟩ = some (.int .i64 p.y)) : Below w.heap.size w W' ∧ W'.cell? ⟨w.heap.size, 0, none⟩ = some (.int .i64 r.x0) ∧ W'.cell? ⟨w.heap.size, 1, none⟩ = some (.int .i64 r.y0) ∧ W'.cell? ⟨w.heap.size, 2, none⟩ = some (.int .i64 r.x1) ∧ W'.cell? ⟨w.heap.size, 3, none⟩ = some (.int .i64 r.y1) ∧ W'.cell? ⟨w.heap.size + 1, 0, none⟩ = some (.int .i64 p.x) ∧ W'.cell? ⟨w.heap.size + 1, 1, none⟩ = some (.int .i64 p.y) :=
  ⟨below2' h.1 l, kp' l (cell_lt' h.2.1) h.2.1, kp' l (cell_lt' h.2.2.1) h.2.2.1, kp' l (cell_lt' h.2.2.2.1) h.2.2.2.1, kp' l (cell_lt' h.2.2.2.2.1) h.2.2.2.2.1, kp' l (cell_lt' h.2.2.2.2.2.1) h.2.2.2.2.2.1, kp' l (cell_lt' h.2.2.2.2.2.2) h.2.2.2.2.2.2⟩
set_option maxRecDepth 100000 in
set_option maxHeartbeats 4000000 in
theorem holds_any (r : Rc) (p : Pt) (w : World) : Calls Tryd.prog 17 #[.agg #[.int .i64 r.x0, .int .i64 r.y0, .int .i64 r.x1, .int .i64 r.y1], .agg #[.int .i64 p.x, .int .i64 p.y]] w fun e w' => e = .returned (.bool (ovB r (justR p))) ∧ Below w.heap.size w w' := by
  have K1 := Lib.hid (fun W => just_any p W)
  have K2 := Lib.hid (fun W => overlap_any r (justR p) W)
  obtain ⟨j, hj⟩ : ∃ j, j = justR p := ⟨_, rfl⟩
  rw [← hj] at K1 K2 ⊢
  obtain ⟨q, hq⟩ : ∃ q, q = ovB r j := ⟨_, rfl⟩
  rw [← hq] at K2 ⊢
  clear hj hq
  have S0 := Lib.hid (s6_start w r p)
  go_enter Tryd.func17, Tryd.ntmps17
  go_wp2
  generalize ((w.alloc (.cells #[.int .i64 r.x0, .int .i64 r.y0, .int .i64 r.x1, .int .i64 r.y1] 32)).alloc (.cells #[.int .i64 p.x, .int .i64 p.y] 23)) = B at S0 ⊢
  go_region_held3 (fun W => Below w.heap.size w W ∧ W.cell? ⟨w.heap.size, 0, none⟩ = some (.int .i64 r.x0) ∧ W.cell? ⟨w.heap.size, 1, none⟩ = some (.int .i64 r.y0) ∧ W.cell? ⟨w.heap.size, 2, none⟩ = some (.int .i64 r.x1) ∧ W.cell? ⟨w.heap.size, 3, none⟩ = some (.int .i64 r.y1) ∧ W.cell? ⟨w.heap.size + 1, 0, none⟩ = some (.int .i64 p.x) ∧ W.cell? ⟨w.heap.size + 1, 1, none⟩ = some (.int .i64 p.y)) (with_reducible first | assumption | exact S0.out | exact s6_keep (Below.refl _ _).drew S0.out) (first
    | (go_at_call 34; (with_reducible refine (K1.out _).mono ?_); rintro e w' ⟨rfl, l1⟩; have hS := s6_keep (w := w) (r := r) (p := p) l1 (by with_reducible first | assumption | exact S0.out | exact s6_keep (Below.refl _ _).drew S0.out); clear l1)
    | (go_at_call 33; (with_reducible refine (K2.out _).mono ?_); rintro e w' ⟨rfl, l1⟩; have hS := s6_keep (w := w) (r := r) (p := p) l1 (by with_reducible first | assumption | exact S0.out | exact s6_keep (Below.refl _ _).drew S0.out); clear l1))
  go_wp2
  go_ret
  exact ⟨rfl, by first | exact hS.1 | exact hS.1.drew⟩
end Go.Proofs.YtiiikahpmoifaaaDoor
