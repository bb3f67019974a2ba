/- HashHolds: the walk. -/
import Derived.Test.YtiiikahpmoifaaaDoorHHolds
import Derived.BigQuiet
namespace Go.Proofs.YtiiikahpmoifaaaDoor
open Go.RowKit
set_option linter.unusedVariables false
set_option linter.unusedSimpArgs false

open Go.Shelf
attribute [local go_sem] Oper.semAt_some
set_option maxRecDepth 100000 in
set_option maxHeartbeats 8000000 in
theorem hashHolds_no (r : Rc) (p : Pt) (t : Nat) (ht : t < 256) (hr : ¬ MayR r) (w : World) (hm : MaskT w) :
    Calls Tryd.prog 6 #[.agg #[.int .i64 r.x0, .int .i64 r.y0, .int .i64 r.x1, .int .i64 r.y1], .agg #[.int .i64 p.x, .int .i64 p.y], .int .u8 (t : Nat)] w fun e w' => e = .returned (.bool true) ∧ Below w.heap.size w w' := by
  have HM := Lib.hid hm
  have HB0 := Lib.hid (((Below.refl w.heap.size w).alloc (Nat.le_refl _) (.cells #[.int .i64 r.x0, .int .i64 r.y0, .int .i64 r.x1, .int .i64 r.y1] 32)).alloc (by simp) (.cells #[.int .i64 p.x, .int .i64 p.y] 23))
  have KA := Lib.hid fun V h => awake_any V h
  have KR := Lib.hid fun V => mayRect_any r V
  rw [show mayRB r = false from decide_eq_false hr] at KR
  obtain ⟨n, hn⟩ : ∃ n, t % 64 + 1 = n := ⟨_, rfl⟩
  have hn1 : 1 ≤ n := by omega
  have hn2 : n ≤ 64 := by omega
  have hni : (t : Int) % 64 + 1 = (n : Int) := by omega
  have hnt : ((t : Int).tmod 64) + 1 = (n : Int) := by rw [Int.tmod_eq_emod_of_nonneg (by omega)]; exact hni
  have KV := Lib.hid fun V => cover_no r hr n V
  clear hm hr hn
  go_enter Tryd.func6, Tryd.ntmps6
  go_wp2_with fail
  (with_reducible refine (KV.out _).mono ?_); rintro _ w1 ⟨rfl, l1⟩
  have L1 := Lib.hid (HB0.out.trans (l1.mono (by simp; omega)))
  obtain ⟨hc, hf⟩ := bcell l1
  have c0 : w1.cell? ⟨w.heap.size, 0, none⟩ = some (.int .i64 r.x0) := by go_simp
  have c1 : w1.cell? ⟨w.heap.size, 1, none⟩ = some (.int .i64 r.y0) := by go_simp
  have c2 : w1.cell? ⟨w.heap.size, 2, none⟩ = some (.int .i64 r.x1) := by go_simp
  have c3 : w1.cell? ⟨w.heap.size, 3, none⟩ = some (.int .i64 r.y1) := by go_simp
  clear l1 hc hf KV
  go_wp2_with fail
  (with_reducible refine (KR.out _).mono ?_); rintro _ w2 ⟨rfl, l2⟩
  have L2 := Lib.hid (below2' L1.out l2)
  clear l2 c0 c1 c2 c3 KR
  go_wp2_with fail
  (with_reducible refine (KA.out _ (HM.out.below L2.out)).mono ?_); rintro _ w3 ⟨rfl, l3⟩
  have L3 := Lib.hid (below2' L2.out l3)
  clear l3
  go_wp2_with fail
  go_ret
  exact ⟨rfl, L3.out⟩
set_option maxRecDepth 100000 in
set_option maxHeartbeats 4000000 in
theorem hashHolds_may (r : Rc) (p : Pt) (t : Nat) (ht : t < 256) (hr : MayR r) (w : World) (hm : MaskT w) :
    Calls Tryd.prog 6 #[.agg #[.int .i64 r.x0, .int .i64 r.y0, .int .i64 r.x1, .int .i64 r.y1], .agg #[.int .i64 p.x, .int .i64 p.y], .int .u8 (t : Nat)] w fun e w' => e = .returned (.bool true) ∧ Below w.heap.size w w' := by
  have HM := Lib.hid hm
  have HB0 := Lib.hid (((Below.refl w.heap.size w).alloc (Nat.le_refl _) (.cells #[.int .i64 r.x0, .int .i64 r.y0, .int .i64 r.x1, .int .i64 r.y1] 32)).alloc (by simp) (.cells #[.int .i64 p.x, .int .i64 p.y] 23))
  have KA := Lib.hid fun V h => awake_any V h
  have KC := Lib.hid fun V h => code_any p V h
  have KH := Lib.hid fun V => holds_any r p V
  have KR := Lib.hid fun V => mayRect_any r V
  rw [show mayRB r = true from decide_eq_true hr] at KR
  obtain ⟨n, hn⟩ : ∃ n, t % 64 + 1 = n := ⟨_, rfl⟩
  have hn1 : 1 ≤ n := by omega
  have hn2 : n ≤ 64 := by omega
  have hni : (t : Int) % 64 + 1 = (n : Int) := by omega
  have hnt : ((t : Int).tmod 64) + 1 = (n : Int) := by rw [Int.tmod_eq_emod_of_nonneg (by omega)]; exact hni
  have KV := Lib.hid fun V h => cover_any r hr n hn1 hn2 V h
  have HR := Lib.hid hr
  clear hm hr hn
  go_enter Tryd.func6, Tryd.ntmps6
  go_wp2_with fail
  (with_reducible refine (KV.out _ (HM.out.below HB0.out)).mono ?_); rintro _ w1 ⟨⟨v, L, rfl, hcov, hown⟩, l1⟩
  have L1 := Lib.hid (HB0.out.trans (l1.mono (by simp; omega)))
  obtain ⟨hc, hf⟩ := bcell l1
  have c0 : w1.cell? ⟨w.heap.size, 0, none⟩ = some (.int .i64 r.x0) := by go_simp
  have c1 : w1.cell? ⟨w.heap.size, 1, none⟩ = some (.int .i64 r.y0) := by go_simp
  have c2 : w1.cell? ⟨w.heap.size, 2, none⟩ = some (.int .i64 r.x1) := by go_simp
  have c3 : w1.cell? ⟨w.heap.size, 3, none⟩ = some (.int .i64 r.y1) := by go_simp
  have p0 : w1.cell? ⟨w.heap.size + 1, 0, none⟩ = some (.int .i64 p.x) := by go_simp
  have p1 : w1.cell? ⟨w.heap.size + 1, 1, none⟩ = some (.int .i64 p.y) := by go_simp
  obtain ⟨hgap, hne, hlen, _⟩ := cover_good (Bk.fit_ok (bkOf_fit HR.out)) hcov
  obtain ⟨g, cp, rfl, hg⟩ := own_rd hne hown
  have HT := Lib.hid (covers_top (Bk.fit_ok (bkOf_fit HR.out)) hcov)
  have HG := Lib.hid hgap
  have hl1 : 1 ≤ L.length := List.length_pos_iff.2 hne
  have HO := Lib.hid (fun h => holds_one (p := p) HR.out hcov h)
  clear l1 hc hf KV hown hne hcov hgap
  obtain ⟨m, hm⟩ : ∃ m, L.length = m := ⟨_, rfl⟩
  rw [hm] at hlen hl1 HO ⊢
  have HL := Lib.hid hm
  have HGR := Lib.hid hg
  clear hm hg
  go_wp2_with fail
  (with_reducible refine (KR.out _).mono ?_); rintro _ w2 ⟨rfl, l2⟩
  have L2 := Lib.hid (below2' L1.out l2)
  have d0 := kp' l2 (cell_lt' c0) c0
  have d1 := kp' l2 (cell_lt' c1) c1
  have d2 := kp' l2 (cell_lt' c2) c2
  have d3 := kp' l2 (cell_lt' c3) c3
  have q0 := kp' l2 (cell_lt' p0) p0
  have q1 := kp' l2 (cell_lt' p1) p1
  have HG2 := Lib.hid (HGR.out.below l2)
  clear l2 c0 c1 c2 c3 p0 p1 KR HGR
  have hm0 : ¬ (m : Int) = 0 := by omega
  have hmB : ((m : Int) == 0) = false := by simp; omega
  have hmn : ¬ (n : Int) < (m : Int) := by omega
  go_wp2_with fail
  (with_reducible refine (KC.out _ (HM.out.below L2.out)).mono ?_); rintro _ w3 ⟨rfl, l3⟩
  have L3 := Lib.hid (below2' L2.out l3)
  have c0 := kp' l3 (cell_lt' d0) d0
  have c1 := kp' l3 (cell_lt' d1) d1
  have c2 := kp' l3 (cell_lt' d2) d2
  have c3 := kp' l3 (cell_lt' d3) d3
  have p0 := kp' l3 (cell_lt' q0) q0
  have p1 := kp' l3 (cell_lt' q1) q1
  have HG3 := Lib.hid (HG2.out.below l3)
  clear l3 d0 d1 d2 d3 q0 q1 KC HG2
  obtain ⟨c, hc⟩ : ∃ c, codeV p = c := ⟨_, rfl⟩
  obtain ⟨mp, hmp⟩ : ∃ mp, mayB p = mp := ⟨_, rfl⟩
  rw [hc, hmp] at HO ⊢
  clear hc hmp
  go_wp2_with fail
  go_loopw [9, 12] (fun cn i wr => (∃ k : Nat, k ≤ m ∧ i = .int .i64 k ∧ cn = .int .i64 (cntM mp c L k : Nat)) ∧ Below w3.heap.size w3 wr) (fun _ i _ => m - (intOf i).toNat)
  case atStart => exact ⟨⟨0, by omega, rfl, by rw [cntM_zero]; rfl⟩, Below.refl _ _⟩
  case round =>
    obtain ⟨⟨k, hk, rfl, rfl⟩, hB⟩ := hrel
    have HB := Lib.hid hB
    by_cases hlt : k < m
    · obtain ⟨r1, hr⟩ := getR (show k < L.length by rw [HL.out]; exact hlt)
      obtain ⟨s0, s1⟩ := HG3.out k r1 hr
      have c0' := kp' HB.out (cell_lt' s0) s0
      have c1' := kp' HB.out (cell_lt' s1) s1
      have hr2 := HT.out r1 (List.mem_of_getElem? hr)
      have hr1 := HG.out.2 r1 (List.mem_of_getElem? hr)
      have HHit := Lib.hid fun a b d => cntM_hit (m := mp) (c := c) hr a b d
      have HMiss := Lib.hid fun a => cntM_miss (m := mp) (c := c) hr a
      have HPrev := Lib.hid fun j q (e : k = j + 1) (hq : L[j]? = some q) => gap_prev HG.out hq (show L[j + 1]? = some r1 by rw [← e]; exact hr)
      have hcl := cntM_le mp c L k
      obtain ⟨rl, rh⟩ := r1
      dsimp only at c0' c1' hr1 hr2 HHit HMiss HPrev
      rw [Nat.zero_add] at c0' c1'
      obtain ⟨z, hz⟩ : ∃ z, cntM mp c L k = z := ⟨_, rfl⟩
      rw [hz] at HHit HMiss hcl
      rw [hz]
      have hgt : decide ((rh : Int) < (rl : Int)) = false := decide_eq_false (by omega)
      have hgtN : decide (rh < rl) = false := decide_eq_false (by omega)
      have hlt' : (k : Int) < (m : Int) := by omega
      have hkw : IntKind.i64.wrap ((k : Int) + 1) = (k : Int) + 1 := IntWalk.i64_in _ (by omega)
      have hpr : k = 0 ∨ ∃ (j : Nat) (q : Rg), k = j + 1 ∧ L[j]? = some q ∧ q.2 + 1 < rl := by
        rcases k with _ | j
        · exact .inl rfl
        · obtain ⟨q, hq⟩ := getR (show j < L.length by rw [HL.out]; omega)
          exact .inr ⟨j, q, rfl, hq, HPrev.out j q rfl hq⟩
      have e0 := c0'
      have e1 := c1'
      clear s0 s1 hr hz hB c0' c1' HPrev
      rcases hpr with rfl | ⟨j, q, hkj, hjq, hqr⟩
      · have hzb : z ≤ 64 := by omega
        go_upto_region 12 with fail
        refine wp_region_held_drew (S := fun W => W.cell? ⟨g, 0 * 2, none⟩ = some (.int .u64 (rl : Nat)) ∧ W.cell? ⟨g, 0 * 2 + 1, none⟩ = some (.int .u64 (rh : Nat))) (by kernel_rfl) (⟨e0, e1⟩) (fun hHeld => ?_)
        simp only [List.append, List.size_toArray, List.length_cons, List.length_nil, Nat.reduceAdd, Array.replicate_succ, Array.replicate_zero]
        refine wpAnyH_take (i := 0) (oi := { dst := some 49, op := Op.move (Operand.tmp 8), type := 33, pos := "outright.go:38", after := #[], guard := none }) (v := ?_) rfl (by kernel_rfl) (by kernel_rfl) (by kernel_rfl) (fun _ _ _ h => h) (Or.inl ⟨by kernel_rfl, ?_⟩) hHeld ?_
        rotate_left 1
        · (intro w0 hSw; obtain ⟨s0, s1⟩ := hSw; go_simp; (try with_reducible rfl))
        simp only [Act.put, List.setIfInBounds_toArray, List.set_cons_zero, List.set_cons_succ]
        refine wpAnyH_take (i := 1) (oi := { dst := some 50, op := Op.move (Operand.tmp 12), type := 3, pos := "outright.go:38", after := #[], guard := none }) (v := ?_) rfl (by kernel_rfl) (by kernel_rfl) (by kernel_rfl) (fun _ _ _ h => h) (Or.inl ⟨by kernel_rfl, ?_⟩) hHeld ?_
        rotate_left 1
        · (intro w0 hSw; obtain ⟨s0, s1⟩ := hSw; go_simp; (try with_reducible rfl))
        simp only [Act.put, List.setIfInBounds_toArray, List.set_cons_zero, List.set_cons_succ]
        refine wpAnyH_take (i := 5) (oi := { dst := some 54, op := Op.move (Operand.tmp 8), type := 33, pos := "outright.go:38", after := #[], guard := none }) (v := ?_) rfl (by kernel_rfl) (by kernel_rfl) (by kernel_rfl) (fun _ _ _ h => h) (Or.inl ⟨by kernel_rfl, ?_⟩) hHeld ?_
        rotate_left 1
        · (intro w0 hSw; obtain ⟨s0, s1⟩ := hSw; go_simp; (try with_reducible rfl))
        simp only [Act.put, List.setIfInBounds_toArray, List.set_cons_zero, List.set_cons_succ]
        refine wpAnyH_take (i := 6) (oi := { dst := some 55, op := Op.move (Operand.tmp 12), type := 3, pos := "outright.go:38", after := #[], guard := none }) (v := ?_) rfl (by kernel_rfl) (by kernel_rfl) (by kernel_rfl) (fun _ _ _ h => h) (Or.inl ⟨by kernel_rfl, ?_⟩) hHeld ?_
        rotate_left 1
        · (intro w0 hSw; obtain ⟨s0, s1⟩ := hSw; go_simp; (try with_reducible rfl))
        simp only [Act.put, List.setIfInBounds_toArray, List.set_cons_zero, List.set_cons_succ]
        refine wpAnyH_take (i := 2) (oi := { dst := some 51, op := Op.indexAddr 33 (Operand.tmp 49) (Operand.tmp 50), type := 0, pos := "outright.go:38", after := #[{ on := 0, ground := Ground.data }, { on := 1, ground := Ground.data }], guard := none }) (v := ?_) rfl (by kernel_rfl) (by kernel_rfl) (by kernel_rfl) (fun _ _ _ h => h) (Or.inl ⟨by kernel_rfl, ?_⟩) hHeld ?_
        rotate_left 1
        · (intro w0 hSw; obtain ⟨s0, s1⟩ := hSw; go_simp; (try with_reducible rfl))
        simp only [Act.put, List.setIfInBounds_toArray, List.set_cons_zero, List.set_cons_succ]
        refine wpAnyH_take (i := 7) (oi := { dst := some 56, op := Op.indexAddr 33 (Operand.tmp 54) (Operand.tmp 55), type := 0, pos := "outright.go:38", after := #[{ on := 5, ground := Ground.data }, { on := 6, ground := Ground.data }], guard := none }) (v := ?_) rfl (by kernel_rfl) (by kernel_rfl) (by kernel_rfl) (fun _ _ _ h => h) (Or.inl ⟨by kernel_rfl, ?_⟩) hHeld ?_
        rotate_left 1
        · (intro w0 hSw; obtain ⟨s0, s1⟩ := hSw; go_simp; (try with_reducible rfl))
        simp only [Act.put, List.setIfInBounds_toArray, List.set_cons_zero, List.set_cons_succ]
        refine wpAnyH_take (i := 3) (oi := { dst := some 52, op := Op.fieldAddr 38 (Operand.tmp 51) 0, type := 0, pos := "outright.go:38", after := #[{ on := 2, ground := Ground.data }], guard := none }) (v := ?_) rfl (by kernel_rfl) (by kernel_rfl) (by kernel_rfl) (fun _ _ _ h => h) (Or.inl ⟨by kernel_rfl, ?_⟩) hHeld ?_
        rotate_left 1
        · (intro w0 hSw; obtain ⟨s0, s1⟩ := hSw; go_simp; (try with_reducible rfl))
        simp only [Act.put, List.setIfInBounds_toArray, List.set_cons_zero, List.set_cons_succ]
        refine wpAnyH_take (i := 8) (oi := { dst := some 57, op := Op.fieldAddr 38 (Operand.tmp 56) 1, type := 0, pos := "outright.go:38", after := #[{ on := 7, ground := Ground.data }], guard := none }) (v := ?_) rfl (by kernel_rfl) (by kernel_rfl) (by kernel_rfl) (fun _ _ _ h => h) (Or.inl ⟨by kernel_rfl, ?_⟩) hHeld ?_
        rotate_left 1
        · (intro w0 hSw; obtain ⟨s0, s1⟩ := hSw; go_simp; (try with_reducible rfl))
        simp only [Act.put, List.setIfInBounds_toArray, List.set_cons_zero, List.set_cons_succ]
        refine wpAnyH_take (i := 4) (oi := { dst := some 53, op := Op.load 24 (Operand.tmp 52), type := 24, pos := "outright.go:38", after := #[{ on := 3, ground := Ground.data }], guard := none }) (v := ?_) rfl (by kernel_rfl) (by kernel_rfl) (by kernel_rfl) (fun _ _ _ h => h) (Or.inl ⟨by kernel_rfl, ?_⟩) hHeld ?_
        rotate_left 1
        · (intro w0 hSw; obtain ⟨s0, s1⟩ := hSw; go_simp; (try with_reducible rfl))
        simp only [Act.put, List.setIfInBounds_toArray, List.set_cons_zero, List.set_cons_succ]
        refine wpAnyH_take (i := 9) (oi := { dst := some 58, op := Op.load 24 (Operand.tmp 57), type := 24, pos := "outright.go:38", after := #[{ on := 8, ground := Ground.data }], guard := none }) (v := ?_) rfl (by kernel_rfl) (by kernel_rfl) (by kernel_rfl) (fun _ _ _ h => h) (Or.inl ⟨by kernel_rfl, ?_⟩) hHeld ?_
        rotate_left 1
        · (intro w0 hSw; obtain ⟨s0, s1⟩ := hSw; go_simp; (try with_reducible rfl))
        simp only [Act.put, List.setIfInBounds_toArray, List.set_cons_zero, List.set_cons_succ]
        refine wpAnyH_take (i := 10) (oi := { dst := some 59, op := Op.binOp BinOp.gtr 24 (Operand.tmp 53) (Operand.tmp 58) 24, type := 4, pos := "outright.go:38", after := #[{ on := 4, ground := Ground.data }, { on := 9, ground := Ground.data }], guard := none }) (v := ?_) rfl (by kernel_rfl) (by kernel_rfl) (by kernel_rfl) (fun _ _ _ h => h) (Or.inl ⟨by kernel_rfl, ?_⟩) hHeld ?_
        rotate_left 1
        · (intro w0 hSw; obtain ⟨s0, s1⟩ := hSw; go_simp; (try with_reducible rfl))
        simp only [Act.put, List.setIfInBounds_toArray, List.set_cons_zero, List.set_cons_succ]
        refine wpAnyH_take (i := 11) (oi := { dst := some 60, op := Op.move (Operand.tmp 59), type := 4, pos := "outright.go:38", after := #[{ on := 10, ground := Ground.data }], guard := none }) (v := ?_) rfl (by kernel_rfl) (by kernel_rfl) (by kernel_rfl) (fun _ _ _ h => h) (Or.inl ⟨by kernel_rfl, ?_⟩) hHeld ?_
        rotate_left 1
        · (intro w0 hSw; obtain ⟨s0, s1⟩ := hSw; go_simp; (try with_reducible rfl))
        simp only [Act.put, List.setIfInBounds_toArray, List.set_cons_zero, List.set_cons_succ]
        refine wpAnyH_take (i := 12) (oi := { dst := some 61, op := Op.move (Operand.tmp 12), type := 3, pos := "outright.go:38", after := #[{ on := 11, ground := Ground.guard }], guard := some (11, false) }) (v := ?_) rfl (by kernel_rfl) (by kernel_rfl) (by kernel_rfl) (fun _ _ _ h => h) (Or.inl ⟨by kernel_rfl, ?_⟩) hHeld ?_
        rotate_left 1
        · (intro w0 hSw; obtain ⟨s0, s1⟩ := hSw; go_simp; (try with_reducible rfl))
        simp only [Act.put, List.setIfInBounds_toArray, List.set_cons_zero, List.set_cons_succ]
        refine wpAnyH_take (i := 13) (oi := { dst := some 62, op := Op.binOp BinOp.gtr 3 (Operand.tmp 61) (Operand.const (Value.int IntKind.i64 0)) 3, type := 4, pos := "outright.go:38", after := #[{ on := 12, ground := Ground.data }, { on := 11, ground := Ground.guard }], guard := some (11, false) }) (v := ?_) rfl (by kernel_rfl) (by kernel_rfl) (by kernel_rfl) (fun _ _ _ h => h) (Or.inl ⟨by kernel_rfl, ?_⟩) hHeld ?_
        rotate_left 1
        · (intro w0 hSw; obtain ⟨s0, s1⟩ := hSw; go_simp; (try with_reducible rfl))
        simp only [Act.put, List.setIfInBounds_toArray, List.set_cons_zero, List.set_cons_succ]
        refine wpAnyH_take (i := 14) (oi := { dst := some 63, op := Op.move (Operand.tmp 62), type := 4, pos := "outright.go:38", after := #[{ on := 13, ground := Ground.data }, { on := 11, ground := Ground.chain }, { on := 11, ground := Ground.guard }], guard := some (11, false) }) (v := ?_) rfl (by kernel_rfl) (by kernel_rfl) (by kernel_rfl) (fun _ _ _ h => h) (Or.inl ⟨by kernel_rfl, ?_⟩) hHeld ?_
        rotate_left 1
        · (intro w0 hSw; obtain ⟨s0, s1⟩ := hSw; go_simp; (try with_reducible rfl))
        simp only [Act.put, List.setIfInBounds_toArray, List.set_cons_zero, List.set_cons_succ]
        refine wpAnyH_take (i := 15) (oi := { dst := some 64, op := Op.move (Operand.tmp 8), type := 33, pos := "outright.go:38", after := #[{ on := 14, ground := Ground.guard }], guard := some (14, true) }) (v := undef) rfl (by kernel_rfl) (by kernel_rfl) (by kernel_rfl) (fun _ _ _ h => h) (Or.inr ⟨by kernel_rfl, rfl⟩) hHeld ?_
        simp only [Act.put, List.setIfInBounds_toArray, List.set_cons_zero, List.set_cons_succ]
        refine wpAnyH_take (i := 16) (oi := { dst := some 65, op := Op.move (Operand.tmp 12), type := 3, pos := "outright.go:38", after := #[{ on := 14, ground := Ground.guard }], guard := some (14, true) }) (v := undef) rfl (by kernel_rfl) (by kernel_rfl) (by kernel_rfl) (fun _ _ _ h => h) (Or.inr ⟨by kernel_rfl, rfl⟩) hHeld ?_
        simp only [Act.put, List.setIfInBounds_toArray, List.set_cons_zero, List.set_cons_succ]
        refine wpAnyH_take (i := 20) (oi := { dst := some 69, op := Op.move (Operand.tmp 8), type := 33, pos := "outright.go:38", after := #[{ on := 14, ground := Ground.guard }], guard := some (14, true) }) (v := undef) rfl (by kernel_rfl) (by kernel_rfl) (by kernel_rfl) (fun _ _ _ h => h) (Or.inr ⟨by kernel_rfl, rfl⟩) hHeld ?_
        simp only [Act.put, List.setIfInBounds_toArray, List.set_cons_zero, List.set_cons_succ]
        refine wpAnyH_take (i := 21) (oi := { dst := some 70, op := Op.move (Operand.tmp 12), type := 3, pos := "outright.go:38", after := #[{ on := 14, ground := Ground.guard }], guard := some (14, true) }) (v := undef) rfl (by kernel_rfl) (by kernel_rfl) (by kernel_rfl) (fun _ _ _ h => h) (Or.inr ⟨by kernel_rfl, rfl⟩) hHeld ?_
        simp only [Act.put, List.setIfInBounds_toArray, List.set_cons_zero, List.set_cons_succ]
        refine wpAnyH_take (i := 17) (oi := { dst := some 66, op := Op.indexAddr 33 (Operand.tmp 64) (Operand.tmp 65), type := 0, pos := "outright.go:38", after := #[{ on := 15, ground := Ground.data }, { on := 16, ground := Ground.data }, { on := 14, ground := Ground.guard }], guard := some (14, true) }) (v := undef) rfl (by kernel_rfl) (by kernel_rfl) (by kernel_rfl) (fun _ _ _ h => h) (Or.inr ⟨by kernel_rfl, rfl⟩) hHeld ?_
        simp only [Act.put, List.setIfInBounds_toArray, List.set_cons_zero, List.set_cons_succ]
        refine wpAnyH_take (i := 22) (oi := { dst := some 71, op := Op.binOp BinOp.sub 3 (Operand.tmp 70) (Operand.const (Value.int IntKind.i64 1)) 3, type := 3, pos := "outright.go:38", after := #[{ on := 21, ground := Ground.data }, { on := 14, ground := Ground.guard }], guard := some (14, true) }) (v := undef) rfl (by kernel_rfl) (by kernel_rfl) (by kernel_rfl) (fun _ _ _ h => h) (Or.inr ⟨by kernel_rfl, rfl⟩) hHeld ?_
        simp only [Act.put, List.setIfInBounds_toArray, List.set_cons_zero, List.set_cons_succ]
        refine wpAnyH_take (i := 18) (oi := { dst := some 67, op := Op.fieldAddr 38 (Operand.tmp 66) 0, type := 0, pos := "outright.go:38", after := #[{ on := 17, ground := Ground.data }, { on := 14, ground := Ground.guard }], guard := some (14, true) }) (v := undef) rfl (by kernel_rfl) (by kernel_rfl) (by kernel_rfl) (fun _ _ _ h => h) (Or.inr ⟨by kernel_rfl, rfl⟩) hHeld ?_
        simp only [Act.put, List.setIfInBounds_toArray, List.set_cons_zero, List.set_cons_succ]
        refine wpAnyH_take (i := 23) (oi := { dst := some 72, op := Op.indexAddr 33 (Operand.tmp 69) (Operand.tmp 71), type := 0, pos := "outright.go:38", after := #[{ on := 20, ground := Ground.data }, { on := 22, ground := Ground.data }, { on := 14, ground := Ground.guard }], guard := some (14, true) }) (v := undef) rfl (by kernel_rfl) (by kernel_rfl) (by kernel_rfl) (fun _ _ _ h => h) (Or.inr ⟨by kernel_rfl, rfl⟩) hHeld ?_
        simp only [Act.put, List.setIfInBounds_toArray, List.set_cons_zero, List.set_cons_succ]
        refine wpAnyH_take (i := 19) (oi := { dst := some 68, op := Op.load 24 (Operand.tmp 67), type := 24, pos := "outright.go:38", after := #[{ on := 18, ground := Ground.data }, { on := 14, ground := Ground.guard }], guard := some (14, true) }) (v := undef) rfl (by kernel_rfl) (by kernel_rfl) (by kernel_rfl) (fun _ _ _ h => h) (Or.inr ⟨by kernel_rfl, rfl⟩) hHeld ?_
        simp only [Act.put, List.setIfInBounds_toArray, List.set_cons_zero, List.set_cons_succ]
        refine wpAnyH_take (i := 24) (oi := { dst := some 73, op := Op.fieldAddr 38 (Operand.tmp 72) 1, type := 0, pos := "outright.go:38", after := #[{ on := 23, ground := Ground.data }, { on := 14, ground := Ground.guard }], guard := some (14, true) }) (v := undef) rfl (by kernel_rfl) (by kernel_rfl) (by kernel_rfl) (fun _ _ _ h => h) (Or.inr ⟨by kernel_rfl, rfl⟩) hHeld ?_
        simp only [Act.put, List.setIfInBounds_toArray, List.set_cons_zero, List.set_cons_succ]
        refine wpAnyH_take (i := 25) (oi := { dst := some 74, op := Op.load 24 (Operand.tmp 73), type := 24, pos := "outright.go:38", after := #[{ on := 24, ground := Ground.data }, { on := 14, ground := Ground.guard }], guard := some (14, true) }) (v := undef) rfl (by kernel_rfl) (by kernel_rfl) (by kernel_rfl) (fun _ _ _ h => h) (Or.inr ⟨by kernel_rfl, rfl⟩) hHeld ?_
        simp only [Act.put, List.setIfInBounds_toArray, List.set_cons_zero, List.set_cons_succ]
        refine wpAnyH_take (i := 26) (oi := { dst := some 75, op := Op.binOp BinOp.add 24 (Operand.tmp 74) (Operand.const (Value.int IntKind.u64 1)) 24, type := 24, pos := "outright.go:38", after := #[{ on := 25, ground := Ground.data }, { on := 14, ground := Ground.guard }], guard := some (14, true) }) (v := undef) rfl (by kernel_rfl) (by kernel_rfl) (by kernel_rfl) (fun _ _ _ h => h) (Or.inr ⟨by kernel_rfl, rfl⟩) hHeld ?_
        simp only [Act.put, List.setIfInBounds_toArray, List.set_cons_zero, List.set_cons_succ]
        refine wpAnyH_take (i := 27) (oi := { dst := some 76, op := Op.binOp BinOp.leq 24 (Operand.tmp 68) (Operand.tmp 75) 24, type := 4, pos := "outright.go:38", after := #[{ on := 19, ground := Ground.data }, { on := 26, ground := Ground.data }, { on := 14, ground := Ground.guard }], guard := some (14, true) }) (v := undef) rfl (by kernel_rfl) (by kernel_rfl) (by kernel_rfl) (fun _ _ _ h => h) (Or.inr ⟨by kernel_rfl, rfl⟩) hHeld ?_
        simp only [Act.put, List.setIfInBounds_toArray, List.set_cons_zero, List.set_cons_succ]
        refine wpAnyH_take (i := 28) (oi := { dst := some 77, op := Op.pick (Operand.tmp 63) (Operand.tmp 76) (Operand.const (Value.bool false)), type := 4, pos := "outright.go:38", after := #[{ on := 14, ground := Ground.data }, { on := 27, ground := Ground.data }, { on := 11, ground := Ground.guard }], guard := some (11, false) }) (v := ?_) rfl (by kernel_rfl) (by kernel_rfl) (by kernel_rfl) (fun _ _ _ h => h) (Or.inl ⟨by kernel_rfl, ?_⟩) hHeld ?_
        rotate_left 1
        · (intro w0 hSw; obtain ⟨s0, s1⟩ := hSw; go_simp; (try with_reducible rfl))
        simp only [Act.put, List.setIfInBounds_toArray, List.set_cons_zero, List.set_cons_succ]
        refine wpAnyH_take (i := 29) (oi := { dst := some 78, op := Op.pick (Operand.tmp 60) (Operand.const (Value.bool true)) (Operand.tmp 77), type := 4, pos := "outright.go:38", after := #[{ on := 11, ground := Ground.data }, { on := 28, ground := Ground.data }], guard := none }) (v := ?_) rfl (by kernel_rfl) (by kernel_rfl) (by kernel_rfl) (fun _ _ _ h => h) (Or.inl ⟨by kernel_rfl, ?_⟩) hHeld ?_
        rotate_left 1
        · (intro w0 hSw; obtain ⟨s0, s1⟩ := hSw; go_simp; (try with_reducible rfl))
        simp only [Act.put, List.setIfInBounds_toArray, List.set_cons_zero, List.set_cons_succ]
        refine wpAnyH_done (by kernel_rfl) ?_ _
        cases mp with
        | false =>
          have hz1 := HMiss.out (fun h => by cases h.1)
          go_wp2
          go_roundw
          case rel => exact ⟨⟨1, by omega, by first | rfl | go_num | simp, by rw [hz1]⟩, (by have h := HB.out; exact ⟨h.os, h.tape, h.output, h.size, h.block⟩)⟩
          case measure => simp [intOf]; omega
        | true =>
          have hzw : IntKind.i64.wrap ((z : Int) + 1) = (z : Int) + 1 := IntWalk.i64_in _ (by omega)
          go_wp2
          all_goals
            go_roundw
            case rel =>
              refine ⟨⟨1, by omega, by first | rfl | go_num | simp, ?_⟩, (by have h := HB.out; exact ⟨h.os, h.tape, h.output, h.size, h.block⟩)⟩
              first
              | (rw [HHit.out rfl (by assumption) (by assumption)]; first | rfl | go_num | simp)
              | (rw [HMiss.out (fun h => by have h5 := h.2.1; have h6 := h.2.2; omega)])
            case measure => simp [intOf]; omega
      · obtain ⟨_, qq⟩ := HG3.out j q hjq
        have e2 := kp' HB.out (cell_lt' qq) qq
        rw [Nat.zero_add] at e2
        obtain ⟨ql, qh⟩ := q
        dsimp only at e2 hqr
        have hzb : z ≤ 64 := by omega
        have hqw : IntKind.u64.wrap ((qh : Int) + 1) = (qh : Int) + 1 := by rw [IntKind.wrap_u64]; omega
        have hqB : decide ((rl : Int) ≤ (qh : Int) + 1) = false := decide_eq_false (by omega)
        have hjw : IntKind.i64.wrap ((k : Int) - 1) = (j : Int) := by rw [IntWalk.i64_in _ (by omega)]; omega
        have hkp : decide ((0 : Int) < (k : Int)) = true := decide_eq_true (by omega)
        have hkpN : decide (0 < k) = true := decide_eq_true (by omega)
        have hjI : (j : Int) < (m : Int) := by omega
        clear hjq hkj hqr qq
        go_upto_region 12 with fail
        refine wp_region_held_drew (S := fun W => W.cell? ⟨g, k * 2, none⟩ = some (.int .u64 (rl : Nat)) ∧ W.cell? ⟨g, k * 2 + 1, none⟩ = some (.int .u64 (rh : Nat)) ∧ W.cell? ⟨g, j * 2 + 1, none⟩ = some (.int .u64 (qh : Nat))) (by kernel_rfl) (⟨e0, e1, e2⟩) (fun hHeld => ?_)
        simp only [List.append, List.size_toArray, List.length_cons, List.length_nil, Nat.reduceAdd, Array.replicate_succ, Array.replicate_zero]
        refine wpAnyH_take (i := 0) (oi := { dst := some 49, op := Op.move (Operand.tmp 8), type := 33, pos := "outright.go:38", after := #[], guard := none }) (v := ?_) rfl (by kernel_rfl) (by kernel_rfl) (by kernel_rfl) (fun _ _ _ h => h) (Or.inl ⟨by kernel_rfl, ?_⟩) hHeld ?_
        rotate_left 1
        · (intro w0 hSw; obtain ⟨s0, s1, s2⟩ := hSw; go_simp; (try with_reducible rfl))
        simp only [Act.put, List.setIfInBounds_toArray, List.set_cons_zero, List.set_cons_succ]
        refine wpAnyH_take (i := 1) (oi := { dst := some 50, op := Op.move (Operand.tmp 12), type := 3, pos := "outright.go:38", after := #[], guard := none }) (v := ?_) rfl (by kernel_rfl) (by kernel_rfl) (by kernel_rfl) (fun _ _ _ h => h) (Or.inl ⟨by kernel_rfl, ?_⟩) hHeld ?_
        rotate_left 1
        · (intro w0 hSw; obtain ⟨s0, s1, s2⟩ := hSw; go_simp; (try with_reducible rfl))
        simp only [Act.put, List.setIfInBounds_toArray, List.set_cons_zero, List.set_cons_succ]
        refine wpAnyH_take (i := 5) (oi := { dst := some 54, op := Op.move (Operand.tmp 8), type := 33, pos := "outright.go:38", after := #[], guard := none }) (v := ?_) rfl (by kernel_rfl) (by kernel_rfl) (by kernel_rfl) (fun _ _ _ h => h) (Or.inl ⟨by kernel_rfl, ?_⟩) hHeld ?_
        rotate_left 1
        · (intro w0 hSw; obtain ⟨s0, s1, s2⟩ := hSw; go_simp; (try with_reducible rfl))
        simp only [Act.put, List.setIfInBounds_toArray, List.set_cons_zero, List.set_cons_succ]
        refine wpAnyH_take (i := 6) (oi := { dst := some 55, op := Op.move (Operand.tmp 12), type := 3, pos := "outright.go:38", after := #[], guard := none }) (v := ?_) rfl (by kernel_rfl) (by kernel_rfl) (by kernel_rfl) (fun _ _ _ h => h) (Or.inl ⟨by kernel_rfl, ?_⟩) hHeld ?_
        rotate_left 1
        · (intro w0 hSw; obtain ⟨s0, s1, s2⟩ := hSw; go_simp; (try with_reducible rfl))
        simp only [Act.put, List.setIfInBounds_toArray, List.set_cons_zero, List.set_cons_succ]
        refine wpAnyH_take (i := 2) (oi := { dst := some 51, op := Op.indexAddr 33 (Operand.tmp 49) (Operand.tmp 50), type := 0, pos := "outright.go:38", after := #[{ on := 0, ground := Ground.data }, { on := 1, ground := Ground.data }], guard := none }) (v := ?_) rfl (by kernel_rfl) (by kernel_rfl) (by kernel_rfl) (fun _ _ _ h => h) (Or.inl ⟨by kernel_rfl, ?_⟩) hHeld ?_
        rotate_left 1
        · (intro w0 hSw; obtain ⟨s0, s1, s2⟩ := hSw; go_simp; (try with_reducible rfl))
        simp only [Act.put, List.setIfInBounds_toArray, List.set_cons_zero, List.set_cons_succ]
        refine wpAnyH_take (i := 7) (oi := { dst := some 56, op := Op.indexAddr 33 (Operand.tmp 54) (Operand.tmp 55), type := 0, pos := "outright.go:38", after := #[{ on := 5, ground := Ground.data }, { on := 6, ground := Ground.data }], guard := none }) (v := ?_) rfl (by kernel_rfl) (by kernel_rfl) (by kernel_rfl) (fun _ _ _ h => h) (Or.inl ⟨by kernel_rfl, ?_⟩) hHeld ?_
        rotate_left 1
        · (intro w0 hSw; obtain ⟨s0, s1, s2⟩ := hSw; go_simp; (try with_reducible rfl))
        simp only [Act.put, List.setIfInBounds_toArray, List.set_cons_zero, List.set_cons_succ]
        refine wpAnyH_take (i := 3) (oi := { dst := some 52, op := Op.fieldAddr 38 (Operand.tmp 51) 0, type := 0, pos := "outright.go:38", after := #[{ on := 2, ground := Ground.data }], guard := none }) (v := ?_) rfl (by kernel_rfl) (by kernel_rfl) (by kernel_rfl) (fun _ _ _ h => h) (Or.inl ⟨by kernel_rfl, ?_⟩) hHeld ?_
        rotate_left 1
        · (intro w0 hSw; obtain ⟨s0, s1, s2⟩ := hSw; go_simp; (try with_reducible rfl))
        simp only [Act.put, List.setIfInBounds_toArray, List.set_cons_zero, List.set_cons_succ]
        refine wpAnyH_take (i := 8) (oi := { dst := some 57, op := Op.fieldAddr 38 (Operand.tmp 56) 1, type := 0, pos := "outright.go:38", after := #[{ on := 7, ground := Ground.data }], guard := none }) (v := ?_) rfl (by kernel_rfl) (by kernel_rfl) (by kernel_rfl) (fun _ _ _ h => h) (Or.inl ⟨by kernel_rfl, ?_⟩) hHeld ?_
        rotate_left 1
        · (intro w0 hSw; obtain ⟨s0, s1, s2⟩ := hSw; go_simp; (try with_reducible rfl))
        simp only [Act.put, List.setIfInBounds_toArray, List.set_cons_zero, List.set_cons_succ]
        refine wpAnyH_take (i := 4) (oi := { dst := some 53, op := Op.load 24 (Operand.tmp 52), type := 24, pos := "outright.go:38", after := #[{ on := 3, ground := Ground.data }], guard := none }) (v := ?_) rfl (by kernel_rfl) (by kernel_rfl) (by kernel_rfl) (fun _ _ _ h => h) (Or.inl ⟨by kernel_rfl, ?_⟩) hHeld ?_
        rotate_left 1
        · (intro w0 hSw; obtain ⟨s0, s1, s2⟩ := hSw; go_simp; (try with_reducible rfl))
        simp only [Act.put, List.setIfInBounds_toArray, List.set_cons_zero, List.set_cons_succ]
        refine wpAnyH_take (i := 9) (oi := { dst := some 58, op := Op.load 24 (Operand.tmp 57), type := 24, pos := "outright.go:38", after := #[{ on := 8, ground := Ground.data }], guard := none }) (v := ?_) rfl (by kernel_rfl) (by kernel_rfl) (by kernel_rfl) (fun _ _ _ h => h) (Or.inl ⟨by kernel_rfl, ?_⟩) hHeld ?_
        rotate_left 1
        · (intro w0 hSw; obtain ⟨s0, s1, s2⟩ := hSw; go_simp; (try with_reducible rfl))
        simp only [Act.put, List.setIfInBounds_toArray, List.set_cons_zero, List.set_cons_succ]
        refine wpAnyH_take (i := 10) (oi := { dst := some 59, op := Op.binOp BinOp.gtr 24 (Operand.tmp 53) (Operand.tmp 58) 24, type := 4, pos := "outright.go:38", after := #[{ on := 4, ground := Ground.data }, { on := 9, ground := Ground.data }], guard := none }) (v := ?_) rfl (by kernel_rfl) (by kernel_rfl) (by kernel_rfl) (fun _ _ _ h => h) (Or.inl ⟨by kernel_rfl, ?_⟩) hHeld ?_
        rotate_left 1
        · (intro w0 hSw; obtain ⟨s0, s1, s2⟩ := hSw; go_simp; (try with_reducible rfl))
        simp only [Act.put, List.setIfInBounds_toArray, List.set_cons_zero, List.set_cons_succ]
        refine wpAnyH_take (i := 11) (oi := { dst := some 60, op := Op.move (Operand.tmp 59), type := 4, pos := "outright.go:38", after := #[{ on := 10, ground := Ground.data }], guard := none }) (v := ?_) rfl (by kernel_rfl) (by kernel_rfl) (by kernel_rfl) (fun _ _ _ h => h) (Or.inl ⟨by kernel_rfl, ?_⟩) hHeld ?_
        rotate_left 1
        · (intro w0 hSw; obtain ⟨s0, s1, s2⟩ := hSw; go_simp; (try with_reducible rfl))
        simp only [Act.put, List.setIfInBounds_toArray, List.set_cons_zero, List.set_cons_succ]
        refine wpAnyH_take (i := 12) (oi := { dst := some 61, op := Op.move (Operand.tmp 12), type := 3, pos := "outright.go:38", after := #[{ on := 11, ground := Ground.guard }], guard := some (11, false) }) (v := ?_) rfl (by kernel_rfl) (by kernel_rfl) (by kernel_rfl) (fun _ _ _ h => h) (Or.inl ⟨by kernel_rfl, ?_⟩) hHeld ?_
        rotate_left 1
        · (intro w0 hSw; obtain ⟨s0, s1, s2⟩ := hSw; go_simp; (try with_reducible rfl))
        simp only [Act.put, List.setIfInBounds_toArray, List.set_cons_zero, List.set_cons_succ]
        refine wpAnyH_take (i := 13) (oi := { dst := some 62, op := Op.binOp BinOp.gtr 3 (Operand.tmp 61) (Operand.const (Value.int IntKind.i64 0)) 3, type := 4, pos := "outright.go:38", after := #[{ on := 12, ground := Ground.data }, { on := 11, ground := Ground.guard }], guard := some (11, false) }) (v := ?_) rfl (by kernel_rfl) (by kernel_rfl) (by kernel_rfl) (fun _ _ _ h => h) (Or.inl ⟨by kernel_rfl, ?_⟩) hHeld ?_
        rotate_left 1
        · (intro w0 hSw; obtain ⟨s0, s1, s2⟩ := hSw; go_simp; (try with_reducible rfl))
        simp only [Act.put, List.setIfInBounds_toArray, List.set_cons_zero, List.set_cons_succ]
        refine wpAnyH_take (i := 14) (oi := { dst := some 63, op := Op.move (Operand.tmp 62), type := 4, pos := "outright.go:38", after := #[{ on := 13, ground := Ground.data }, { on := 11, ground := Ground.chain }, { on := 11, ground := Ground.guard }], guard := some (11, false) }) (v := ?_) rfl (by kernel_rfl) (by kernel_rfl) (by kernel_rfl) (fun _ _ _ h => h) (Or.inl ⟨by kernel_rfl, ?_⟩) hHeld ?_
        rotate_left 1
        · (intro w0 hSw; obtain ⟨s0, s1, s2⟩ := hSw; go_simp; (try with_reducible rfl))
        simp only [Act.put, List.setIfInBounds_toArray, List.set_cons_zero, List.set_cons_succ]
        refine wpAnyH_take (i := 15) (oi := { dst := some 64, op := Op.move (Operand.tmp 8), type := 33, pos := "outright.go:38", after := #[{ on := 14, ground := Ground.guard }], guard := some (14, true) }) (v := ?_) rfl (by kernel_rfl) (by kernel_rfl) (by kernel_rfl) (fun _ _ _ h => h) (Or.inl ⟨by kernel_rfl, ?_⟩) hHeld ?_
        rotate_left 1
        · (intro w0 hSw; obtain ⟨s0, s1, s2⟩ := hSw; go_simp; (try with_reducible rfl))
        simp only [Act.put, List.setIfInBounds_toArray, List.set_cons_zero, List.set_cons_succ]
        refine wpAnyH_take (i := 16) (oi := { dst := some 65, op := Op.move (Operand.tmp 12), type := 3, pos := "outright.go:38", after := #[{ on := 14, ground := Ground.guard }], guard := some (14, true) }) (v := ?_) rfl (by kernel_rfl) (by kernel_rfl) (by kernel_rfl) (fun _ _ _ h => h) (Or.inl ⟨by kernel_rfl, ?_⟩) hHeld ?_
        rotate_left 1
        · (intro w0 hSw; obtain ⟨s0, s1, s2⟩ := hSw; go_simp; (try with_reducible rfl))
        simp only [Act.put, List.setIfInBounds_toArray, List.set_cons_zero, List.set_cons_succ]
        refine wpAnyH_take (i := 20) (oi := { dst := some 69, op := Op.move (Operand.tmp 8), type := 33, pos := "outright.go:38", after := #[{ on := 14, ground := Ground.guard }], guard := some (14, true) }) (v := ?_) rfl (by kernel_rfl) (by kernel_rfl) (by kernel_rfl) (fun _ _ _ h => h) (Or.inl ⟨by kernel_rfl, ?_⟩) hHeld ?_
        rotate_left 1
        · (intro w0 hSw; obtain ⟨s0, s1, s2⟩ := hSw; go_simp; (try with_reducible rfl))
        simp only [Act.put, List.setIfInBounds_toArray, List.set_cons_zero, List.set_cons_succ]
        refine wpAnyH_take (i := 21) (oi := { dst := some 70, op := Op.move (Operand.tmp 12), type := 3, pos := "outright.go:38", after := #[{ on := 14, ground := Ground.guard }], guard := some (14, true) }) (v := ?_) rfl (by kernel_rfl) (by kernel_rfl) (by kernel_rfl) (fun _ _ _ h => h) (Or.inl ⟨by kernel_rfl, ?_⟩) hHeld ?_
        rotate_left 1
        · (intro w0 hSw; obtain ⟨s0, s1, s2⟩ := hSw; go_simp; (try with_reducible rfl))
        simp only [Act.put, List.setIfInBounds_toArray, List.set_cons_zero, List.set_cons_succ]
        refine wpAnyH_take (i := 17) (oi := { dst := some 66, op := Op.indexAddr 33 (Operand.tmp 64) (Operand.tmp 65), type := 0, pos := "outright.go:38", after := #[{ on := 15, ground := Ground.data }, { on := 16, ground := Ground.data }, { on := 14, ground := Ground.guard }], guard := some (14, true) }) (v := ?_) rfl (by kernel_rfl) (by kernel_rfl) (by kernel_rfl) (fun _ _ _ h => h) (Or.inl ⟨by kernel_rfl, ?_⟩) hHeld ?_
        rotate_left 1
        · (intro w0 hSw; obtain ⟨s0, s1, s2⟩ := hSw; go_simp; (try with_reducible rfl))
        simp only [Act.put, List.setIfInBounds_toArray, List.set_cons_zero, List.set_cons_succ]
        refine wpAnyH_take (i := 22) (oi := { dst := some 71, op := Op.binOp BinOp.sub 3 (Operand.tmp 70) (Operand.const (Value.int IntKind.i64 1)) 3, type := 3, pos := "outright.go:38", after := #[{ on := 21, ground := Ground.data }, { on := 14, ground := Ground.guard }], guard := some (14, true) }) (v := ?_) rfl (by kernel_rfl) (by kernel_rfl) (by kernel_rfl) (fun _ _ _ h => h) (Or.inl ⟨by kernel_rfl, ?_⟩) hHeld ?_
        rotate_left 1
        · (intro w0 hSw; obtain ⟨s0, s1, s2⟩ := hSw; go_simp; (try with_reducible rfl))
        simp only [Act.put, List.setIfInBounds_toArray, List.set_cons_zero, List.set_cons_succ]
        refine wpAnyH_take (i := 18) (oi := { dst := some 67, op := Op.fieldAddr 38 (Operand.tmp 66) 0, type := 0, pos := "outright.go:38", after := #[{ on := 17, ground := Ground.data }, { on := 14, ground := Ground.guard }], guard := some (14, true) }) (v := ?_) rfl (by kernel_rfl) (by kernel_rfl) (by kernel_rfl) (fun _ _ _ h => h) (Or.inl ⟨by kernel_rfl, ?_⟩) hHeld ?_
        rotate_left 1
        · (intro w0 hSw; obtain ⟨s0, s1, s2⟩ := hSw; go_simp; (try with_reducible rfl))
        simp only [Act.put, List.setIfInBounds_toArray, List.set_cons_zero, List.set_cons_succ]
        refine wpAnyH_take (i := 23) (oi := { dst := some 72, op := Op.indexAddr 33 (Operand.tmp 69) (Operand.tmp 71), type := 0, pos := "outright.go:38", after := #[{ on := 20, ground := Ground.data }, { on := 22, ground := Ground.data }, { on := 14, ground := Ground.guard }], guard := some (14, true) }) (v := ?_) rfl (by kernel_rfl) (by kernel_rfl) (by kernel_rfl) (fun _ _ _ h => h) (Or.inl ⟨by kernel_rfl, ?_⟩) hHeld ?_
        rotate_left 1
        · (intro w0 hSw; obtain ⟨s0, s1, s2⟩ := hSw; go_simp; (try with_reducible rfl))
        simp only [Act.put, List.setIfInBounds_toArray, List.set_cons_zero, List.set_cons_succ]
        refine wpAnyH_take (i := 19) (oi := { dst := some 68, op := Op.load 24 (Operand.tmp 67), type := 24, pos := "outright.go:38", after := #[{ on := 18, ground := Ground.data }, { on := 14, ground := Ground.guard }], guard := some (14, true) }) (v := ?_) rfl (by kernel_rfl) (by kernel_rfl) (by kernel_rfl) (fun _ _ _ h => h) (Or.inl ⟨by kernel_rfl, ?_⟩) hHeld ?_
        rotate_left 1
        · (intro w0 hSw; obtain ⟨s0, s1, s2⟩ := hSw; go_simp; (try with_reducible rfl))
        simp only [Act.put, List.setIfInBounds_toArray, List.set_cons_zero, List.set_cons_succ]
        refine wpAnyH_take (i := 24) (oi := { dst := some 73, op := Op.fieldAddr 38 (Operand.tmp 72) 1, type := 0, pos := "outright.go:38", after := #[{ on := 23, ground := Ground.data }, { on := 14, ground := Ground.guard }], guard := some (14, true) }) (v := ?_) rfl (by kernel_rfl) (by kernel_rfl) (by kernel_rfl) (fun _ _ _ h => h) (Or.inl ⟨by kernel_rfl, ?_⟩) hHeld ?_
        rotate_left 1
        · (intro w0 hSw; obtain ⟨s0, s1, s2⟩ := hSw; go_simp; (try with_reducible rfl))
        simp only [Act.put, List.setIfInBounds_toArray, List.set_cons_zero, List.set_cons_succ]
        refine wpAnyH_take (i := 25) (oi := { dst := some 74, op := Op.load 24 (Operand.tmp 73), type := 24, pos := "outright.go:38", after := #[{ on := 24, ground := Ground.data }, { on := 14, ground := Ground.guard }], guard := some (14, true) }) (v := ?_) rfl (by kernel_rfl) (by kernel_rfl) (by kernel_rfl) (fun _ _ _ h => h) (Or.inl ⟨by kernel_rfl, ?_⟩) hHeld ?_
        rotate_left 1
        · (intro w0 hSw; obtain ⟨s0, s1, s2⟩ := hSw; go_simp; (try with_reducible rfl))
        simp only [Act.put, List.setIfInBounds_toArray, List.set_cons_zero, List.set_cons_succ]
        refine wpAnyH_take (i := 26) (oi := { dst := some 75, op := Op.binOp BinOp.add 24 (Operand.tmp 74) (Operand.const (Value.int IntKind.u64 1)) 24, type := 24, pos := "outright.go:38", after := #[{ on := 25, ground := Ground.data }, { on := 14, ground := Ground.guard }], guard := some (14, true) }) (v := ?_) rfl (by kernel_rfl) (by kernel_rfl) (by kernel_rfl) (fun _ _ _ h => h) (Or.inl ⟨by kernel_rfl, ?_⟩) hHeld ?_
        rotate_left 1
        · (intro w0 hSw; obtain ⟨s0, s1, s2⟩ := hSw; go_simp; (try with_reducible rfl))
        simp only [Act.put, List.setIfInBounds_toArray, List.set_cons_zero, List.set_cons_succ]
        refine wpAnyH_take (i := 27) (oi := { dst := some 76, op := Op.binOp BinOp.leq 24 (Operand.tmp 68) (Operand.tmp 75) 24, type := 4, pos := "outright.go:38", after := #[{ on := 19, ground := Ground.data }, { on := 26, ground := Ground.data }, { on := 14, ground := Ground.guard }], guard := some (14, true) }) (v := ?_) rfl (by kernel_rfl) (by kernel_rfl) (by kernel_rfl) (fun _ _ _ h => h) (Or.inl ⟨by kernel_rfl, ?_⟩) hHeld ?_
        rotate_left 1
        · (intro w0 hSw; obtain ⟨s0, s1, s2⟩ := hSw; go_simp; (try with_reducible rfl))
        simp only [Act.put, List.setIfInBounds_toArray, List.set_cons_zero, List.set_cons_succ]
        refine wpAnyH_take (i := 28) (oi := { dst := some 77, op := Op.pick (Operand.tmp 63) (Operand.tmp 76) (Operand.const (Value.bool false)), type := 4, pos := "outright.go:38", after := #[{ on := 14, ground := Ground.data }, { on := 27, ground := Ground.data }, { on := 11, ground := Ground.guard }], guard := some (11, false) }) (v := ?_) rfl (by kernel_rfl) (by kernel_rfl) (by kernel_rfl) (fun _ _ _ h => h) (Or.inl ⟨by kernel_rfl, ?_⟩) hHeld ?_
        rotate_left 1
        · (intro w0 hSw; obtain ⟨s0, s1, s2⟩ := hSw; go_simp; (try with_reducible rfl))
        simp only [Act.put, List.setIfInBounds_toArray, List.set_cons_zero, List.set_cons_succ]
        refine wpAnyH_take (i := 29) (oi := { dst := some 78, op := Op.pick (Operand.tmp 60) (Operand.const (Value.bool true)) (Operand.tmp 77), type := 4, pos := "outright.go:38", after := #[{ on := 11, ground := Ground.data }, { on := 28, ground := Ground.data }], guard := none }) (v := ?_) rfl (by kernel_rfl) (by kernel_rfl) (by kernel_rfl) (fun _ _ _ h => h) (Or.inl ⟨by kernel_rfl, ?_⟩) hHeld ?_
        rotate_left 1
        · (intro w0 hSw; obtain ⟨s0, s1, s2⟩ := hSw; go_simp; (try with_reducible rfl))
        simp only [Act.put, List.setIfInBounds_toArray, List.set_cons_zero, List.set_cons_succ]
        refine wpAnyH_done (by kernel_rfl) ?_ _
        cases mp with
        | false =>
          have hz1 := HMiss.out (fun h => by cases h.1)
          go_wp2
          go_roundw
          case rel => exact ⟨⟨k + 1, by omega, by first | rfl | go_num | simp, by rw [hz1]⟩, (by have h := HB.out; exact ⟨h.os, h.tape, h.output, h.size, h.block⟩)⟩
          case measure => simp [intOf]; omega
        | true =>
          have hzw : IntKind.i64.wrap ((z : Int) + 1) = (z : Int) + 1 := IntWalk.i64_in _ (by omega)
          go_wp2
          all_goals
            go_roundw
            case rel =>
              refine ⟨⟨k + 1, by omega, by first | rfl | go_num | simp, ?_⟩, (by have h := HB.out; exact ⟨h.os, h.tape, h.output, h.size, h.block⟩)⟩
              first
              | (rw [HHit.out rfl (by assumption) (by assumption)]; first | rfl | go_num | simp)
              | (rw [HMiss.out (fun h => by have h5 := h.2.1; have h6 := h.2.2; omega)])
            case measure => simp [intOf]; omega
    · obtain rfl : k = m := by omega
      have hz1 := cntM_top (m := mp) (c := c) HG.out
      rw [HL.out] at hz1
      have c0 := kp' HB.out (cell_lt' c0) c0
      have c1 := kp' HB.out (cell_lt' c1) c1
      have c2 := kp' HB.out (cell_lt' c2) c2
      have c3 := kp' HB.out (cell_lt' c3) c3
      have p0 := kp' HB.out (cell_lt' p0) p0
      have p1 := kp' HB.out (cell_lt' p1) p1
      have L4 := Lib.hid (below2' L3.out HB.out)
      have HR3 := Lib.hid hz1
      obtain ⟨q, hq⟩ : ∃ q, ovB r (justR p) = q := ⟨_, rfl⟩
      obtain ⟨z, hz⟩ : ∃ z, cntM mp c L k = z := ⟨_, rfl⟩
      rw [hq, hz] at HO
      rw [hq] at KH
      rw [hz] at HR3 ⊢
      clear hq hz hz1 HB
      have hzz : (q = true ∧ z = 1) ∨ (q = false ∧ z = 0) ∨ (q = false ∧ z = 1) := by
        have h9 := HR3.out
        cases q with
        | true => exact .inl ⟨rfl, (HO.out rfl).2⟩
        | false => rcases (show z = 0 ∨ z = 1 by omega) with h | h
                   · exact .inr (.inl ⟨rfl, h⟩)
                   · exact .inr (.inr ⟨rfl, h⟩)
      clear HO HR3
      rcases hzz with ⟨rfl, rfl⟩ | ⟨rfl, rfl⟩ | ⟨rfl, rfl⟩
      all_goals
        go_wp2_with fail
        (with_reducible refine (KH.out _).mono ?_); rintro _ w5 ⟨rfl, l5⟩
        have L5 := Lib.hid (below2' L4.out l5)
        clear l5
        go_wp2_with fail
        (with_reducible refine (KA.out _ (HM.out.below L5.out)).mono ?_); rintro _ w6 ⟨rfl, l6⟩
        have L6 := Lib.hid (below2' L5.out l6)
        clear l6
        go_wp2_with fail
        go_ret
        exact ⟨rfl, L6.out⟩
end Go.Proofs.YtiiikahpmoifaaaDoor
