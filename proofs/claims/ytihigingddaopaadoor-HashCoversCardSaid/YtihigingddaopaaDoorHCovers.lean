/- HashCovers: the walk. -/
import Derived.Test.YtihigingddaopaaDoorHSpots
import Derived.Test.YtihigingddaopaaDoorHRefC
namespace Go.Proofs.YtihigingddaopaaDoor
open Go.RowKit
set_option linter.unusedVariables false
set_option linter.unusedSimpArgs false

open Go.Shelf
attribute [local go_sem] Oper.semAt_some
set_option maxHeartbeats 4000000 in
theorem cover_out (r : Rc) (m : Int) (h : ¬ (MayR r ∧ 1 ≤ m ∧ m ≤ 64)) (w : World) :
    Calls Tryd.prog 4 #[.agg #[.int .i64 r.x0, .int .i64 r.y0, .int .i64 r.x1, .int .i64 r.y1], .int .i64 m] w fun e w' => e = .returned (.slice none 0 0) ∧ Below w.heap.size w w' := by
  have KM := Lib.hid (mayRect_any r (w.alloc (.cells #[.int .i64 r.x0, .int .i64 r.y0, .int .i64 r.x1, .int .i64 r.y1] 23)))
  have HB0 := Lib.hid ((Below.refl w.heap.size w).alloc (Nat.le_refl _) (.cells #[.int .i64 r.x0, .int .i64 r.y0, .int .i64 r.x1, .int .i64 r.y1] 23))
  by_cases hr : MayR r
  · rw [show mayRB r = true from decide_eq_true hr] at KM
    by_cases h1 : m < 1
    · have k1 : decide (m < 1) = true := decide_eq_true h1
      clear h hr
      go_enter Tryd.func4, Tryd.ntmps4
      go_wp2_with (go_at_call 7; refine KM.out.mono ?_; rintro _ w1 ⟨rfl, l1⟩; have L1 := Lib.hid l1; clear l1)
      go_ret
      exact ⟨rfl, HB0.out.trans (L1.out.mono (by simp))⟩
    · have k1 : decide (m < 1) = false := decide_eq_false h1
      have k2 : decide (64 < m) = true := decide_eq_true (by
        by_cases h2 : 64 < m
        · exact h2
        · exact absurd ⟨hr, by omega, by omega⟩ h)
      clear h hr
      go_enter Tryd.func4, Tryd.ntmps4
      go_wp2_with (go_at_call 7; refine KM.out.mono ?_; rintro _ w1 ⟨rfl, l1⟩; have L1 := Lib.hid l1; clear l1)
      go_ret
      exact ⟨rfl, HB0.out.trans (L1.out.mono (by simp))⟩
  · rw [show mayRB r = false from decide_eq_false hr] at KM
    clear h hr
    go_enter Tryd.func4, Tryd.ntmps4
    go_wp2_with (go_at_call 7; refine KM.out.mono ?_; rintro _ w1 ⟨rfl, l1⟩; have L1 := Lib.hid l1; clear l1)
    go_ret
    exact ⟨rfl, HB0.out.trans (L1.out.mono (by simp))⟩
set_option maxHeartbeats 4000000 in
theorem refCover_out (r : Rc) (m : Int) (h : ¬ (MayR r ∧ 1 ≤ m ∧ m ≤ 64)) (w : World) :
    Calls Tryd.prog 5 #[.agg #[.int .i64 r.x0, .int .i64 r.y0, .int .i64 r.x1, .int .i64 r.y1], .int .i64 m] w fun e w' => e = .returned (.slice none 0 0) ∧ Below w.heap.size w w' := by
  have KM := Lib.hid (refMayRect_any r (w.alloc (.cells #[.int .i64 r.x0, .int .i64 r.y0, .int .i64 r.x1, .int .i64 r.y1] 23)))
  have HB0 := Lib.hid ((Below.refl w.heap.size w).alloc (Nat.le_refl _) (.cells #[.int .i64 r.x0, .int .i64 r.y0, .int .i64 r.x1, .int .i64 r.y1] 23))
  by_cases hr : MayR r
  · rw [show mayRB r = true from decide_eq_true hr] at KM
    by_cases h1 : m < 1
    · have k1 : decide (m < 1) = true := decide_eq_true h1
      clear h hr
      go_enter Tryd.func5, Tryd.ntmps5
      go_wp2_with (go_at_call 15; refine KM.out.mono ?_; rintro _ w1 ⟨rfl, l1⟩; have L1 := Lib.hid l1; clear l1)
      go_ret
      exact ⟨rfl, HB0.out.trans (L1.out.mono (by simp))⟩
    · have k1 : decide (m < 1) = false := decide_eq_false h1
      have k2 : decide (64 < m) = true := decide_eq_true (by
        by_cases h2 : 64 < m
        · exact h2
        · exact absurd ⟨hr, by omega, by omega⟩ h)
      clear h hr
      go_enter Tryd.func5, Tryd.ntmps5
      go_wp2_with (go_at_call 15; refine KM.out.mono ?_; rintro _ w1 ⟨rfl, l1⟩; have L1 := Lib.hid l1; clear l1)
      go_ret
      exact ⟨rfl, HB0.out.trans (L1.out.mono (by simp))⟩
  · rw [show mayRB r = false from decide_eq_false hr] at KM
    clear h hr
    go_enter Tryd.func5, Tryd.ntmps5
    go_wp2_with (go_at_call 15; refine KM.out.mono ?_; rintro _ w1 ⟨rfl, l1⟩; have L1 := Lib.hid l1; clear l1)
    go_ret
    exact ⟨rfl, HB0.out.trans (L1.out.mono (by simp))⟩
theorem bk_sides {r : Rc} (hr : MayR r) : r.x0 = (((bkOf r).a : Nat) : Int) - 1800000000 ∧ r.y0 = (((bkOf r).c : Nat) : Int) - 900000000 ∧ r.x1 = (((bkOf r).b : Nat) : Int) - 1800000000 ∧ r.y1 = (((bkOf r).d : Nat) : Int) - 900000000 := by
  obtain ⟨h1, h2, h3⟩ := hr
  unfold bkOf
  obtain ⟨a1, a2, a3, a4⟩ := h1
  obtain ⟨b1, b2, b3, b4⟩ := h2
  dsimp only at *
  refine ⟨?_, ?_, ?_, ?_⟩ <;> omega
theorem rowQ_at : ∀ (S : List Rg) (i : Nat) (r : Rg), S[i]? = some r → ∀ j, j < 2 → (rowQ S)[i * 2 + j]? = [Value.int .u64 (r.1 : Nat), .int .u64 (r.2 : Nat)][j]?
  | [], i, r, h, _, _ => by simp at h
  | y :: t, 0, r, h, j, hj => by
    simp at h
    subst h
    unfold rowQ
    rw [List.flatMap_cons, List.getElem?_append_left (by simp; omega)]
    simp
  | y :: t, i + 1, r, h, j, hj => by
    have ih := rowQ_at t i r (by simpa using h) j hj
    unfold rowQ at ih ⊢
    rw [List.flatMap_cons, List.getElem?_append_right (by simp; omega)]
    have : (i + 1) * 2 + j - ([Value.int .u64 (y.1 : Nat), .int .u64 (y.2 : Nat)] : List Value).length = i * 2 + j := by simp; omega
    rw [this, ih]
theorem own_rdQ {W : World} {base : Nat} {v : Value} {L : List Rg} (hL : L ≠ []) (h : W.ownsRow base 31 2 v L.length (rowQ L)) : ∃ g cp, v = .slice (some ⟨g, 0, none⟩) L.length cp ∧ RdG W g 0 L := by
  rcases h.2 with ⟨_, h0⟩ | ⟨g, cap, cur, hv, _⟩
  · exact absurd (List.eq_nil_of_length_eq_zero h0) hL
  · subst hv
    refine ⟨g, cap, rfl, fun i r hi => ?_⟩
    have hil := (List.getElem?_eq_some_iff.1 hi).1
    have c : ∀ j, j < 2 → W.cell? ⟨g, i * 2 + j, none⟩ = [Value.int .u64 (r.1 : Nat), .int .u64 (r.2 : Nat)][j]? := fun j hj => by
      have := World.ownsRow.cellAt (w := W) (base := base) (e := 31) (size := 2) h (i * 2 + j) (by omega)
      rw [this]
      exact rowQ_at L i r hi j hj
    rw [Nat.zero_add]
    exact ⟨c 0 (by omega), c 1 (by omega)⟩
set_option maxRecDepth 100000 in
set_option maxHeartbeats 8000000 in
theorem hashCovers_walk (r : Rc) (m : Int) (w : World) (hm : MaskT w) :
    Calls Tryd.prog 3 #[.agg #[.int .i64 r.x0, .int .i64 r.y0, .int .i64 r.x1, .int .i64 r.y1], .int .i64 m] w fun e w' => e = .returned (.bool true) ∧ Below w.heap.size w w' := by
  have HM := Lib.hid hm
  have HB0 := Lib.hid ((Below.refl w.heap.size w).alloc (Nat.le_refl _) (.cells #[.int .i64 r.x0, .int .i64 r.y0, .int .i64 r.x1, .int .i64 r.y1] 23))
  have b0 : (w.alloc (.cells #[.int .i64 r.x0, .int .i64 r.y0, .int .i64 r.x1, .int .i64 r.y1] 23)).cell? ⟨w.heap.size, 0, none⟩ = some (.int .i64 r.x0) := by go_simp
  have b1 : (w.alloc (.cells #[.int .i64 r.x0, .int .i64 r.y0, .int .i64 r.x1, .int .i64 r.y1] 23)).cell? ⟨w.heap.size, 1, none⟩ = some (.int .i64 r.y0) := by go_simp
  have b2 : (w.alloc (.cells #[.int .i64 r.x0, .int .i64 r.y0, .int .i64 r.x1, .int .i64 r.y1] 23)).cell? ⟨w.heap.size, 2, none⟩ = some (.int .i64 r.x1) := by go_simp
  have b3 : (w.alloc (.cells #[.int .i64 r.x0, .int .i64 r.y0, .int .i64 r.x1, .int .i64 r.y1] 23)).cell? ⟨w.heap.size, 3, none⟩ = some (.int .i64 r.y1) := by go_simp
  have HAw : Hid (∀ W, Below w.heap.size w W → Calls Tryd.prog 6 #[] W fun e w' => e = .returned (.bool true) ∧ Below W.heap.size W w') := Lib.hid fun W l => awake_any W (HM.out.below l)
  clear hm
  by_cases hin : MayR r ∧ 1 ≤ m ∧ m ≤ 64
  · obtain ⟨hr, hm1, hm2⟩ := hin
    obtain ⟨n, rfl⟩ : ∃ n : Nat, m = (n : Int) := ⟨m.toNat, by omega⟩
    obtain ⟨s1, s2, s3, s4⟩ := bk_sides hr
    have HC : Hid (∀ W, Below w.heap.size w W → Calls Tryd.prog 4 #[.agg #[.int .i64 r.x0, .int .i64 r.y0, .int .i64 r.x1, .int .i64 r.y1], .int .i64 (n : Nat)] W fun e w' => CovP W (bkOf r) n e w' ∧ Below W.heap.size W w') := Lib.hid fun W l => cover_any r hr n (by omega) (by omega) W (HM.out.below l)
    have hrc := fun W => refCover_yes (bkOf r) (bkOf_fit hr) n (by omega) (by omega) W (fun W2 => by
      have h := refMayRect_any r W2
      rw [show mayRB r = true from decide_eq_true hr, s1, s2, s3, s4] at h
      exact h)
    rw [← s1, ← s2, ← s3, ← s4] at hrc
    have HRc := Lib.hid hrc
    have HOk := Lib.hid (Bk.fit_ok (bkOf_fit hr))
    clear hrc s1 s2 s3 s4 hr
    go_enter Tryd.func3, Tryd.ntmps3
    go_wp2_with (first
      | (go_at_call 4; (with_reducible refine (HC.out _ HB0.out).mono ?_); rintro e w1 ⟨⟨v1, L, rfl, hcv, ho1⟩, l1⟩; have L1 := Lib.hid (HB0.out.trans (l1.mono (by simp))); have c0 := kp' l1 (cell_lt' b0) b0; have c1 := kp' l1 (cell_lt' b1) b1; have c2 := kp' l1 (cell_lt' b2) b2; have c3 := kp' l1 (cell_lt' b3) b3; have HCv := Lib.hid hcv; have HO1 := Lib.hid ho1; clear l1 hcv ho1)
      | (go_at_call 5; (with_reducible refine (HRc.out _).mono ?_); rintro e w2 ⟨v2, k, rfl, hk, hcn, hbg, ho2, l2⟩; have L2 := Lib.hid (L1.out.trans (l2.mono L1.out.size)); obtain ⟨k', e1, e2, e3, eL⟩ := covers_ref HOk.out HCv.out; obtain rfl := least_one e2 e3 hcn hbg; obtain ⟨_, hne, hle, _⟩ := cover_good HOk.out HCv.out; rw [← eL] at ho2; obtain ⟨g1, cp1, rfl, r1⟩ := own_rd hne HO1.out; obtain ⟨g2, cp2, rfl, r2⟩ := own_rdQ hne ho2; have R1 := Lib.hid (r1.below l2); have R2 := Lib.hid r2; obtain ⟨nl, hnl⟩ : ∃ nl, nl = L.length := ⟨_, rfl⟩; rw [← hnl] at hle ⊢; have HNl := Lib.hid hnl; have hn64 : nl ≤ 64 := (by omega); clear l2 hk hcn hbg ho2 e1 e2 e3 eL hne hle r1 r2 hnl HCv HO1))
    clear c0 c1 c2 c3 b0 b1 b2 b3 HC HRc HOk
    go_loopw [7] (fun i wr => ∃ t : Nat, t ≤ nl ∧ i = .int .i64 (t : Nat) ∧ Below w2.heap.size w2 wr) (fun i _ => nl - (intOf i).toNat)
    case atStart => exact ⟨0, by omega, rfl, Below.refl _ _⟩
    case round =>
      obtain ⟨t, ht, rfl, hnx⟩ := hrel
      have HX := Lib.hid hnx
      by_cases hlt : t < nl
      · obtain ⟨q, hq⟩ := getR (show t < L.length by rw [← HNl.out]; exact hlt)
        have p1 := R1.out t q hq
        have p2 := R2.out t q hq
        have d0 := kp' hnx (cell_lt' p1.1) p1.1
        have d1 := kp' hnx (cell_lt' p1.2) p1.2
        have d2 := kp' hnx (cell_lt' p2.1) p2.1
        have d3 := kp' hnx (cell_lt' p2.2) p2.2
        rw [Nat.zero_add] at d0 d1 d2 d3
        obtain ⟨ql, qh⟩ := q
        dsimp only at d0 d1 d2 d3
        clear p1 p2 hq hnx
        go_wp2_with fail
        go_quiet (fail)
        go_wp2_with fail
        exact ⟨⟨t + 1, by omega, by go_num, belowQn HX.out _⟩, by simp [intOf]; omega⟩
      · obtain rfl : t = nl := by omega
        clear hnx
        go_wp2_with (first
          | (go_at_call 6; (with_reducible refine (HAw.out _ (L2.out.trans (HX.out.mono L2.out.size))).mono ?_); rintro e w3 ⟨rfl, l3⟩; have L3 := Lib.hid ((L2.out.trans (HX.out.mono L2.out.size)).trans (l3.mono (Nat.le_trans L2.out.size HX.out.size))); clear l3))
        go_ret
        exact ⟨rfl, L3.out⟩
  · have KC := Lib.hid (cover_out r m hin)
    have KR := Lib.hid (refCover_out r m hin)
    clear hin
    go_enter Tryd.func3, Tryd.ntmps3
    go_wp2_with (first
      | (go_at_call 4; (with_reducible refine (KC.out _).mono ?_); rintro e w1 ⟨rfl, l1⟩; have L1 := Lib.hid (HB0.out.trans (l1.mono (by simp))); have c0 := kp' l1 (cell_lt' b0) b0; have c1 := kp' l1 (cell_lt' b1) b1; have c2 := kp' l1 (cell_lt' b2) b2; have c3 := kp' l1 (cell_lt' b3) b3; clear l1)
      | (go_at_call 5; (with_reducible refine (KR.out _).mono ?_); rintro e w2 ⟨rfl, l2⟩; have L2 := Lib.hid (L1.out.trans (l2.mono L1.out.size)); clear l2)
      | (go_at_call 6; (with_reducible refine (HAw.out _ L2.out).mono ?_); rintro e w3 ⟨rfl, l3⟩; have L3 := Lib.hid (L2.out.trans (l3.mono L2.out.size)); clear l3))
    go_loop [7] (fun i => i = .int .i64 0) (fun _ => 0)
    case atStart => rfl
    case round =>
      subst hrel
      go_wp2_with (first
        | (go_at_call 6; (with_reducible refine (HAw.out _ L2.out).mono ?_); rintro e w3 ⟨rfl, l3⟩; have L3 := Lib.hid (L2.out.trans (l3.mono L2.out.size)); clear l3))
      go_ret
      exact ⟨rfl, L3.out⟩
end Go.Proofs.YtihigingddaopaaDoor
