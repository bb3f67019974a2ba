/- WordTexts: two rows of words told apart; the walk. -/
import Derived.Test.YtoghdllppecblaaDoorQRefW
import Derived.Test.YtoghdllppecblaaDoorQOnce
namespace Go.Proofs.YtoghdllppecblaaDoor
open Go.RowKit
set_option linter.unusedVariables false
set_option linter.unusedSimpArgs false

theorem OwnR.rd {W : World} {base : Nat} {v : Value} {ws : List Wd} (h : OwnR W base v ws) : ∃ A c, v = .slice A ws.length c ∧ RdW W A ws := by
  have hr0 := h
  rcases h.2 with ⟨hv, h0⟩ | ⟨g, cap, cur, hv, hg, hh, _⟩
  · refine ⟨none, 0, by rw [hv, h0], fun hne => ?_⟩
    exact absurd (List.eq_nil_of_length_eq_zero h0) hne
  · subst hv
    refine ⟨some ⟨g, 0, none⟩, cap, rfl, fun _ => ⟨g, rfl, (Array.getElem?_eq_some_iff.1 hh).1, fun i wd hi => ?_⟩⟩
    have hil := (List.getElem?_eq_some_iff.1 hi).1
    have hc := fun j hj => World.ownsRow.cellAt (w := W) (base := base) (e := 40) (size := 3) hr0 j hj
    have e0 := rowW_at _ i wd hi 0 (by omega)
    have e1 := rowW_at _ i wd hi 1 (by omega)
    have e2 := rowW_at _ i wd hi 2 (by omega)
    refine ⟨?_, ?_, ?_⟩
    · have := hc (i * 3) (by omega); rw [this]; exact e0
    · rw [hc _ (by omega), e1]; rfl
    · rw [hc _ (by omega), e2]; rfl
set_option maxRecDepth 100000 in
set_option maxHeartbeats 8000000 in
theorem same_any (ws : List Wd) (hl : ws.length ≤ 100000) (A : Option Addr) (c : Nat) (A2 : Option Addr) (c2 : Nat) (w : World) (hr : RdW w A ws) (hr2 : RdW w A2 ws) : Calls Tryd.prog 13 #[.slice A ws.length c, .slice A2 ws.length c2] w fun e w' => e = .returned (.bool true) ∧ Below w.heap.size w w' := by
  have HR := Lib.hid hr
  have HR2 := Lib.hid hr2
  clear hr hr2
  go_enter Tryd.func13, Tryd.ntmps13
  go_wp2
  go_loopw [5] (fun i wr => (∃ k : Nat, k ≤ ws.length ∧ i = .int .i64 k) ∧ Below w.heap.size w wr) (fun i _ => ws.length - (intOf i).toNat)
  case atStart => exact ⟨⟨0, Nat.zero_le _, rfl⟩, Below.refl _ _⟩
  case round =>
    obtain ⟨⟨k, hk, rfl⟩, hB⟩ := hrel
    have HB := Lib.hid hB
    clear hB
    by_cases hlt : k < ws.length
    · obtain ⟨wd, hwd⟩ : ∃ wd, ws[k]? = some wd := ⟨_, List.getElem?_eq_getElem hlt⟩
      have hne : ws ≠ [] := by intro e; rw [e] at hlt; exact absurd hlt (Nat.not_lt_zero _)
      obtain ⟨g, rfl, hg, hc⟩ := (HR.out.below HB.out) hne
      obtain ⟨g2, rfl, hg2, hc2⟩ := (HR2.out.below HB.out) hne
      obtain ⟨c0, c1, c2'⟩ := hc k wd hwd
      obtain ⟨d0, d1, d2⟩ := hc2 k wd hwd
      have c2 := c2'
      clear c2'
      obtain ⟨bt, hbt⟩ : ∃ bt, bt = mkB wd.text := ⟨_, rfl⟩
      obtain ⟨wa, hwa⟩ : ∃ n, n = wd.a := ⟨_, rfl⟩
      obtain ⟨wb, hwb⟩ : ∃ n, n = wd.b := ⟨_, rfl⟩
      rw [← hbt] at c0 d0
      rw [← hwa] at c1 d1
      rw [← hwb] at c2 d2
      have hxI : (k : Int) < (ws.length : Int) := by omega
      have hkw : IntKind.i64.wrap ((k : Int) + 1) = (k : Int) + 1 := IntWalk.i64_in _ (by omega)
      clear hc hc2 hwd hbt hwa hwb
      go_upto_region 6 with fail
      refine wp_region_held_drew (S := fun W => W.cell? ⟨g, k * 3, none⟩ = some (.string bt) ∧ W.cell? ⟨g, k * 3 + 1, none⟩ = some (.int .i64 (wa : Nat)) ∧ W.cell? ⟨g, k * 3 + 2, none⟩ = some (.int .i64 (wb : Nat)) ∧ W.cell? ⟨g2, k * 3, none⟩ = some (.string bt) ∧ W.cell? ⟨g2, k * 3 + 1, none⟩ = some (.int .i64 (wa : Nat)) ∧ W.cell? ⟨g2, k * 3 + 2, none⟩ = some (.int .i64 (wb : Nat))) (by kernel_rfl) (⟨c0, c1, c2, d0, d1, d2⟩) (fun hHeld => ?_)
      simp only [List.append, List.size_toArray, List.length_cons, List.length_nil, Nat.reduceAdd, Array.replicate_succ, Array.replicate_zero]
      refine wpAnyH_take (i := 0) (oi := { dst := some 17, op := Op.move (Operand.tmp 0), type := 28, pos := "law.go:21", after := #[], guard := none }) (v := ?_) rfl (by kernel_rfl) (by kernel_rfl) (by kernel_rfl) (fun _ _ _ h => h) (Or.inl ⟨by kernel_rfl, ?_⟩) hHeld ?_
      rotate_left 1
      · (intro w0 hSw; obtain ⟨s0, s1, s2, s3, s4, s5⟩ := hSw; go_simp; (try with_reducible rfl))
      simp only [Act.put, List.setIfInBounds_toArray, List.set_cons_zero, List.set_cons_succ]
      refine wpAnyH_take (i := 1) (oi := { dst := some 18, op := Op.move (Operand.tmp 5), type := 3, pos := "law.go:21", after := #[], guard := none }) (v := ?_) rfl (by kernel_rfl) (by kernel_rfl) (by kernel_rfl) (fun _ _ _ h => h) (Or.inl ⟨by kernel_rfl, ?_⟩) hHeld ?_
      rotate_left 1
      · (intro w0 hSw; obtain ⟨s0, s1, s2, s3, s4, s5⟩ := hSw; go_simp; (try with_reducible rfl))
      simp only [Act.put, List.setIfInBounds_toArray, List.set_cons_zero, List.set_cons_succ]
      refine wpAnyH_take (i := 4) (oi := { dst := some 21, op := Op.move (Operand.tmp 1), type := 30, pos := "law.go:21", after := #[], guard := none }) (v := ?_) rfl (by kernel_rfl) (by kernel_rfl) (by kernel_rfl) (fun _ _ _ h => h) (Or.inl ⟨by kernel_rfl, ?_⟩) hHeld ?_
      rotate_left 1
      · (intro w0 hSw; obtain ⟨s0, s1, s2, s3, s4, s5⟩ := hSw; go_simp; (try with_reducible rfl))
      simp only [Act.put, List.setIfInBounds_toArray, List.set_cons_zero, List.set_cons_succ]
      refine wpAnyH_take (i := 5) (oi := { dst := some 22, op := Op.move (Operand.tmp 5), type := 3, pos := "law.go:21", after := #[], guard := none }) (v := ?_) rfl (by kernel_rfl) (by kernel_rfl) (by kernel_rfl) (fun _ _ _ h => h) (Or.inl ⟨by kernel_rfl, ?_⟩) hHeld ?_
      rotate_left 1
      · (intro w0 hSw; obtain ⟨s0, s1, s2, s3, s4, s5⟩ := hSw; go_simp; (try with_reducible rfl))
      simp only [Act.put, List.setIfInBounds_toArray, List.set_cons_zero, List.set_cons_succ]
      refine wpAnyH_take (i := 9) (oi := { dst := some 26, op := Op.move (Operand.tmp 1), type := 30, pos := "law.go:21", after := #[], guard := none }) (v := ?_) rfl (by kernel_rfl) (by kernel_rfl) (by kernel_rfl) (fun _ _ _ h => h) (Or.inl ⟨by kernel_rfl, ?_⟩) hHeld ?_
      rotate_left 1
      · (intro w0 hSw; obtain ⟨s0, s1, s2, s3, s4, s5⟩ := hSw; go_simp; (try with_reducible rfl))
      simp only [Act.put, List.setIfInBounds_toArray, List.set_cons_zero, List.set_cons_succ]
      refine wpAnyH_take (i := 10) (oi := { dst := some 27, op := Op.move (Operand.tmp 5), type := 3, pos := "law.go:21", after := #[], guard := none }) (v := ?_) rfl (by kernel_rfl) (by kernel_rfl) (by kernel_rfl) (fun _ _ _ h => h) (Or.inl ⟨by kernel_rfl, ?_⟩) hHeld ?_
      rotate_left 1
      · (intro w0 hSw; obtain ⟨s0, s1, s2, s3, s4, s5⟩ := hSw; go_simp; (try with_reducible rfl))
      simp only [Act.put, List.setIfInBounds_toArray, List.set_cons_zero, List.set_cons_succ]
      refine wpAnyH_take (i := 14) (oi := { dst := some 31, op := Op.move (Operand.tmp 1), type := 30, pos := "law.go:21", after := #[], guard := none }) (v := ?_) rfl (by kernel_rfl) (by kernel_rfl) (by kernel_rfl) (fun _ _ _ h => h) (Or.inl ⟨by kernel_rfl, ?_⟩) hHeld ?_
      rotate_left 1
      · (intro w0 hSw; obtain ⟨s0, s1, s2, s3, s4, s5⟩ := hSw; go_simp; (try with_reducible rfl))
      simp only [Act.put, List.setIfInBounds_toArray, List.set_cons_zero, List.set_cons_succ]
      refine wpAnyH_take (i := 15) (oi := { dst := some 32, op := Op.move (Operand.tmp 5), type := 3, pos := "law.go:21", after := #[], guard := none }) (v := ?_) rfl (by kernel_rfl) (by kernel_rfl) (by kernel_rfl) (fun _ _ _ h => h) (Or.inl ⟨by kernel_rfl, ?_⟩) hHeld ?_
      rotate_left 1
      · (intro w0 hSw; obtain ⟨s0, s1, s2, s3, s4, s5⟩ := hSw; go_simp; (try with_reducible rfl))
      simp only [Act.put, List.setIfInBounds_toArray, List.set_cons_zero, List.set_cons_succ]
      refine wpAnyH_take (i := 2) (oi := { dst := some 19, op := Op.indexAddr 28 (Operand.tmp 17) (Operand.tmp 18), type := 0, pos := "law.go:21", after := #[{ on := 0, ground := Ground.data }, { on := 1, ground := Ground.data }], guard := none }) (v := ?_) rfl (by kernel_rfl) (by kernel_rfl) (by kernel_rfl) (fun _ _ _ h => h) (Or.inl ⟨by kernel_rfl, ?_⟩) hHeld ?_
      rotate_left 1
      · (intro w0 hSw; obtain ⟨s0, s1, s2, s3, s4, s5⟩ := hSw; go_simp; (try with_reducible rfl))
      simp only [Act.put, List.setIfInBounds_toArray, List.set_cons_zero, List.set_cons_succ]
      refine wpAnyH_take (i := 6) (oi := { dst := some 23, op := Op.indexAddr 30 (Operand.tmp 21) (Operand.tmp 22), type := 0, pos := "law.go:21", after := #[{ on := 4, ground := Ground.data }, { on := 5, ground := Ground.data }], guard := none }) (v := ?_) rfl (by kernel_rfl) (by kernel_rfl) (by kernel_rfl) (fun _ _ _ h => h) (Or.inl ⟨by kernel_rfl, ?_⟩) hHeld ?_
      rotate_left 1
      · (intro w0 hSw; obtain ⟨s0, s1, s2, s3, s4, s5⟩ := hSw; go_simp; (try with_reducible rfl))
      simp only [Act.put, List.setIfInBounds_toArray, List.set_cons_zero, List.set_cons_succ]
      refine wpAnyH_take (i := 11) (oi := { dst := some 28, op := Op.indexAddr 30 (Operand.tmp 26) (Operand.tmp 27), type := 0, pos := "law.go:21", after := #[{ on := 9, ground := Ground.data }, { on := 10, ground := Ground.data }], guard := none }) (v := ?_) rfl (by kernel_rfl) (by kernel_rfl) (by kernel_rfl) (fun _ _ _ h => h) (Or.inl ⟨by kernel_rfl, ?_⟩) hHeld ?_
      rotate_left 1
      · (intro w0 hSw; obtain ⟨s0, s1, s2, s3, s4, s5⟩ := hSw; go_simp; (try with_reducible rfl))
      simp only [Act.put, List.setIfInBounds_toArray, List.set_cons_zero, List.set_cons_succ]
      refine wpAnyH_take (i := 16) (oi := { dst := some 33, op := Op.indexAddr 30 (Operand.tmp 31) (Operand.tmp 32), type := 0, pos := "law.go:21", after := #[{ on := 14, ground := Ground.data }, { on := 15, ground := Ground.data }], guard := none }) (v := ?_) rfl (by kernel_rfl) (by kernel_rfl) (by kernel_rfl) (fun _ _ _ h => h) (Or.inl ⟨by kernel_rfl, ?_⟩) hHeld ?_
      rotate_left 1
      · (intro w0 hSw; obtain ⟨s0, s1, s2, s3, s4, s5⟩ := hSw; go_simp; (try with_reducible rfl))
      simp only [Act.put, List.setIfInBounds_toArray, List.set_cons_zero, List.set_cons_succ]
      refine wpAnyH_take (i := 3) (oi := { dst := some 20, op := Op.load 33 (Operand.tmp 19), type := 33, pos := "law.go:21", after := #[{ on := 2, ground := Ground.data }], guard := none }) (v := ?_) rfl (by kernel_rfl) (by kernel_rfl) (by kernel_rfl) (fun _ _ _ h => h) (Or.inl ⟨by kernel_rfl, ?_⟩) hHeld ?_
      rotate_left 1
      · (intro w0 hSw; obtain ⟨s0, s1, s2, s3, s4, s5⟩ := hSw; go_simp; (try with_reducible rfl))
      simp only [Act.put, List.setIfInBounds_toArray, List.set_cons_zero, List.set_cons_succ]
      refine wpAnyH_take (i := 7) (oi := { dst := some 24, op := Op.fieldAddr 40 (Operand.tmp 23) 0, type := 0, pos := "law.go:21", after := #[{ on := 6, ground := Ground.data }], guard := none }) (v := ?_) rfl (by kernel_rfl) (by kernel_rfl) (by kernel_rfl) (fun _ _ _ h => h) (Or.inl ⟨by kernel_rfl, ?_⟩) hHeld ?_
      rotate_left 1
      · (intro w0 hSw; obtain ⟨s0, s1, s2, s3, s4, s5⟩ := hSw; go_simp; (try with_reducible rfl))
      simp only [Act.put, List.setIfInBounds_toArray, List.set_cons_zero, List.set_cons_succ]
      refine wpAnyH_take (i := 12) (oi := { dst := some 29, op := Op.fieldAddr 40 (Operand.tmp 28) 1, type := 0, pos := "law.go:21", after := #[{ on := 11, ground := Ground.data }], guard := none }) (v := ?_) rfl (by kernel_rfl) (by kernel_rfl) (by kernel_rfl) (fun _ _ _ h => h) (Or.inl ⟨by kernel_rfl, ?_⟩) hHeld ?_
      rotate_left 1
      · (intro w0 hSw; obtain ⟨s0, s1, s2, s3, s4, s5⟩ := hSw; go_simp; (try with_reducible rfl))
      simp only [Act.put, List.setIfInBounds_toArray, List.set_cons_zero, List.set_cons_succ]
      refine wpAnyH_take (i := 17) (oi := { dst := some 34, op := Op.fieldAddr 40 (Operand.tmp 33) 2, type := 0, pos := "law.go:21", after := #[{ on := 16, ground := Ground.data }], guard := none }) (v := ?_) rfl (by kernel_rfl) (by kernel_rfl) (by kernel_rfl) (fun _ _ _ h => h) (Or.inl ⟨by kernel_rfl, ?_⟩) hHeld ?_
      rotate_left 1
      · (intro w0 hSw; obtain ⟨s0, s1, s2, s3, s4, s5⟩ := hSw; go_simp; (try with_reducible rfl))
      simp only [Act.put, List.setIfInBounds_toArray, List.set_cons_zero, List.set_cons_succ]
      refine wpAnyH_take (i := 8) (oi := { dst := some 25, op := Op.load 9 (Operand.tmp 24), type := 9, pos := "law.go:21", after := #[{ on := 7, ground := Ground.data }], guard := none }) (v := ?_) rfl (by kernel_rfl) (by kernel_rfl) (by kernel_rfl) (fun _ _ _ h => h) (Or.inl ⟨by kernel_rfl, ?_⟩) hHeld ?_
      rotate_left 1
      · (intro w0 hSw; obtain ⟨s0, s1, s2, s3, s4, s5⟩ := hSw; go_simp; (try with_reducible rfl))
      simp only [Act.put, List.setIfInBounds_toArray, List.set_cons_zero, List.set_cons_succ]
      refine wpAnyH_take (i := 13) (oi := { dst := some 30, op := Op.load 3 (Operand.tmp 29), type := 3, pos := "law.go:21", after := #[{ on := 12, ground := Ground.data }], guard := none }) (v := ?_) rfl (by kernel_rfl) (by kernel_rfl) (by kernel_rfl) (fun _ _ _ h => h) (Or.inl ⟨by kernel_rfl, ?_⟩) hHeld ?_
      rotate_left 1
      · (intro w0 hSw; obtain ⟨s0, s1, s2, s3, s4, s5⟩ := hSw; go_simp; (try with_reducible rfl))
      simp only [Act.put, List.setIfInBounds_toArray, List.set_cons_zero, List.set_cons_succ]
      refine wpAnyH_take (i := 18) (oi := { dst := some 35, op := Op.load 3 (Operand.tmp 34), type := 3, pos := "law.go:21", after := #[{ on := 17, ground := Ground.data }], guard := none }) (v := ?_) rfl (by kernel_rfl) (by kernel_rfl) (by kernel_rfl) (fun _ _ _ h => h) (Or.inl ⟨by kernel_rfl, ?_⟩) hHeld ?_
      rotate_left 1
      · (intro w0 hSw; obtain ⟨s0, s1, s2, s3, s4, s5⟩ := hSw; go_simp; (try with_reducible rfl))
      simp only [Act.put, List.setIfInBounds_toArray, List.set_cons_zero, List.set_cons_succ]
      refine wpAnyH_take (i := 19) (oi := { dst := some 36, op := Op.build 33 #[(0, Operand.tmp 25), (1, Operand.tmp 30), (2, Operand.tmp 35)], type := 33, pos := "law.go:21", after := #[{ on := 8, ground := Ground.data }, { on := 13, ground := Ground.data }, { on := 18, ground := Ground.data }], guard := none }) (v := ?_) rfl (by kernel_rfl) (by kernel_rfl) (by kernel_rfl) (fun _ _ _ h => h) (Or.inl ⟨by kernel_rfl, ?_⟩) hHeld ?_
      rotate_left 1
      · (intro w0 hSw; obtain ⟨s0, s1, s2, s3, s4, s5⟩ := hSw; go_simp; (try with_reducible rfl))
      simp only [Act.put, List.setIfInBounds_toArray, List.set_cons_zero, List.set_cons_succ]
      refine wpAnyH_take (i := 20) (oi := { dst := some 37, op := Op.binOp BinOp.neq 33 (Operand.tmp 20) (Operand.tmp 36) 33, type := 4, pos := "law.go:21", after := #[{ on := 3, ground := Ground.data }, { on := 19, ground := Ground.data }], guard := none }) (v := ?_) rfl (by kernel_rfl) (by kernel_rfl) (by kernel_rfl) (fun _ _ _ h => h) (Or.inl ⟨by kernel_rfl, ?_⟩) hHeld ?_
      rotate_left 1
      · (intro w0 hSw; obtain ⟨s0, s1, s2, s3, s4, s5⟩ := hSw; go_simp; (try with_reducible rfl))
      simp only [Act.put, List.setIfInBounds_toArray, List.set_cons_zero, List.set_cons_succ]
      refine wpAnyH_done (by kernel_rfl) ?_ _
      clear c0 c1 c2 d0 d1 d2
      go_wp2
      go_roundw
      case rel => exact ⟨⟨k + 1, by omega, by first | rfl | go_num | simp⟩, (by have h := HB.out; exact ⟨h.os, h.tape, h.output, h.size, h.block⟩)⟩
      case measure => simp [intOf]; omega
    · have hxI : ¬ (k : Int) < (ws.length : Int) := by omega
      clear hlt
      go_wp2
      go_ret
      exact ⟨rfl, HB.out⟩
set_option maxRecDepth 100000 in
set_option maxHeartbeats 4000000 in
theorem wordTexts_walk (s : List UInt8) (w : World) (hT : TabT w) (hS : StopT w) : Calls Tryd.prog 4 #[.string (mkB s)] w fun e w' => e = .returned (.bool true) ∧ Below w.heap.size w w' := by
  have hsz : (mkB s).size = s.length := mkB_size s
  by_cases hl : s.length ≤ 600
  · have K1 := Lib.hid (words_read s (by omega) w hT)
    have K2 := Lib.hid (fun W => refWords_any s (by omega) W)
    have HT := Lib.hid hT
    have HS := Lib.hid hS
    have hcI : ¬ (600 : Int) < ((mkB s).size : Int) := by omega
    have hwl := words_len s
    have K3 := Lib.hid (fun A c A2 c2 W (h1 : RdW W A (wordsP s)) h2 => same_any (wordsP s) (by omega) A c A2 c2 W h1 h2)
    obtain ⟨b, hb⟩ : ∃ b, b = mkB s := ⟨_, rfl⟩
    rw [← hb] at K1 K2 hcI ⊢
    clear hT hS hsz hb
    obtain ⟨ws, hws⟩ : ∃ ws, ws = wordsP s := ⟨_, rfl⟩
    rw [← hws] at K1 K2 K3 hwl
    clear hws
    go_enter Tryd.func4, Tryd.ntmps4
    go_wp2_with fail
    refine (Calls.mono (R := _) K1.out ?_)
    rintro _ w1 ⟨A, c, rfl, hr, l1⟩
    have L1 := Lib.hid l1
    have HR := Lib.hid hr
    clear l1 hr K1
    go_wp2_with fail
    refine (Calls.mono (R := _) (K2.out _) ?_)
    rintro _ w2 ⟨v, rfl, ho, l2⟩
    have L2 := Lib.hid (below2' L1.out l2)
    have HR1 := Lib.hid (HR.out.below l2)
    obtain ⟨A2, c2, rfl, hr2⟩ := ho.rd
    have HR2 := Lib.hid hr2
    clear l2 ho hr2
    go_wp2_with fail
    refine (Calls.mono (R := _) (K3.out _ _ _ _ _ HR1.out HR2.out) ?_)
    rintro _ w3 ⟨rfl, l3⟩
    have L3 := Lib.hid (below2' L2.out l3)
    clear l3
    go_wp2_with fail
    refine (Calls.mono (R := _) (awake_any _ (HT.out.below L3.out) (HS.out.below L3.out)) ?_)
    rintro _ w4 ⟨rfl, l4⟩
    have L4 := Lib.hid (below2' L3.out l4)
    clear l4
    go_wp2
    go_ret
    exact ⟨rfl, L4.out⟩
  · have hcI : (600 : Int) < ((mkB s).size : Int) := by omega
    clear hT hS hsz
    go_enter Tryd.func4, Tryd.ntmps4
    go_wp2
    go_ret
    exact ⟨rfl, Below.refl _ _⟩
end Go.Proofs.YtoghdllppecblaaDoor
