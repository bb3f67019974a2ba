/- WordJoins: the walk. -/
import Derived.Test.YtoghdllppecblaaDoorQOnce
namespace Go.Proofs.YtoghdllppecblaaDoor
open Go.RowKit
set_option linter.unusedVariables false
set_option linter.unusedSimpArgs false

theorem mkB_blank (a b : List UInt8) : mkB a ++ ⟨#[32]⟩ ++ mkB b = mkB (a ++ 32 :: b) := by
  rw [show (⟨#[32]⟩ : ByteArray) = mkB [32] from rfl, mkB_app, mkB_app]
  congr 1
  simp
theorem Below.drew' {B : Nat} {a w : World} (h : Below B a w) : Below B a w.drew := ⟨h.os, h.tape, h.output, h.size, h.block⟩
set_option maxRecDepth 100000 in
set_option maxHeartbeats 8000000 in
theorem wordJoins_walk (sa sb : List UInt8) (w : World) (hT : TabT w) (hS : StopT w) : Calls Tryd.prog 6 #[.string (mkB sa), .string (mkB sb)] w fun e w' => e = .returned (.bool true) ∧ Below w.heap.size w w' := by
  have hsza : (mkB sa).size = sa.length := mkB_size sa
  have hszb : (mkB sb).size = sb.length := mkB_size sb
  by_cases hl : sa.length ≤ 300
  · by_cases hl2 : sb.length ≤ 300
    · have K1 := Lib.hid (words_read sa (by omega) w hT)
      have K2 := Lib.hid fun W hW => words_read sb (by omega) W hW
      have k3 := fun W hW => words_read (sa ++ 32 :: sb) (by simp; omega) W hW
      rw [← mkB_blank] at k3
      have hls := words_join sa sb
      have HT := Lib.hid hT
      have HS := Lib.hid hS
      have hcA : ¬ (300 : Int) < ((mkB sa).size : Int) := by omega
      have hcB : ¬ (300 : Int) < ((mkB sb).size : Int) := by omega
      have hc1 : ¬ 9223372036854775807 < (mkB sa).size + 1 := by omega
      have hc2 : ¬ 9223372036854775807 < (mkB sa).size + 1 + (mkB sb).size := by omega
      have HOk := Lib.hid (words_ok sb)
      have hwa := words_len sa
      have hwb := words_len sb
      have HZa := Lib.hid hsza
      obtain ⟨ba, hba⟩ : ∃ b, b = mkB sa := ⟨_, rfl⟩
      obtain ⟨bb, hbb⟩ : ∃ b, b = mkB sb := ⟨_, rfl⟩
      rw [← hba] at K1 k3 hcA hc1 hc2 HZa ⊢
      rw [← hbb] at K2 k3 hcB hc2 ⊢
      have K3 := Lib.hid k3
      clear hT hS hba hbb k3 hsza hszb
      obtain ⟨xs, hxs⟩ : ∃ xs, xs = wordsP sa := ⟨_, rfl⟩
      obtain ⟨ys, hys⟩ : ∃ ys, ys = wordsP sb := ⟨_, rfl⟩
      obtain ⟨ls, hll⟩ : ∃ ls, ls = wordsP (sa ++ 32 :: sb) := ⟨_, rfl⟩
      rw [← hxs] at K1 hls hwa
      rw [← hys] at K2 hls HOk hwb
      rw [← hll] at K3 hls
      clear hxs hys hll
      have hn : (ls.length : Int) = (xs.length : Int) + (ys.length : Int) := by rw [hls]; simp
      have hnw : IntKind.i64.wrap ((xs.length : Int) + (ys.length : Int)) = (ls.length : Int) := by rw [IntWalk.i64_in _ (by omega)]; omega
      have HLs := Lib.hid hls
      have HN := Lib.hid hn
      clear hls hn
      go_enter Tryd.func6, Tryd.ntmps6
      go_wp2_with fail
      refine (Calls.mono (R := _) K1.out ?_)
      rintro _ w1 ⟨A1, cx, rfl, hr1, l1⟩
      have L1 := Lib.hid l1
      have HRx := Lib.hid hr1
      clear l1 hr1 K1
      go_wp2_with fail
      refine (Calls.mono (R := _) (K2.out _ (HT.out.below L1.out)) ?_)
      rintro _ w2 ⟨A2, cy, rfl, hr2, l2⟩
      have L2 := Lib.hid (below2' L1.out l2)
      have HRx1 := Lib.hid (HRx.out.below l2)
      have HRy := Lib.hid hr2
      clear l2 hr2 K2
      go_wp2_with fail
      refine (Calls.mono (R := _) (K3.out _ (HT.out.below L2.out)) ?_)
      rintro _ w3 ⟨A3, cl, rfl, hr3, l3⟩
      have L3 := Lib.hid (below2' L2.out l3)
      have HRx3 := Lib.hid (HRx1.out.below l3)
      have HRy3 := Lib.hid (HRy.out.below l3)
      have HRl := Lib.hid hr3
      clear l3 hr3 K3 HRx HRx1 HRy
      go_wp2_with fail
      go_loopw [8] (fun i wr => (∃ k : Nat, k ≤ ls.length ∧ i = .int .i64 k) ∧ Below w3.heap.size w3 wr) (fun i _ => ls.length - (intOf i).toNat)
      case atStart => exact ⟨⟨0, Nat.zero_le _, rfl⟩, Below.refl _ _⟩
      case round =>
        obtain ⟨⟨k, hk, rfl⟩, hB⟩ := hrel
        have HB := Lib.hid hB
        clear hB
        have hTr := Lib.hid ((HT.out.below L3.out).below HB.out)
        by_cases hlt : k < ls.length
        · have hls := HLs.out
          have hn := HN.out
          have hne : ls ≠ [] := by intro e; rw [e] at hlt; exact absurd hlt (Nat.not_lt_zero _)
          have HRx2 := Lib.hid (HRx3.out.below HB.out)
          have HRy2 := Lib.hid (HRy3.out.below HB.out)
          have hkI : (k : Int) < (ls.length : Int) := by omega
          have hkw : IntKind.i64.wrap ((k : Int) + 1) = (k : Int) + 1 := IntWalk.i64_in _ (by omega)
          by_cases hlt1 : k < xs.length
          · clear hn
            have hlk : k < xs.length := hlt1
            obtain ⟨wd, hwd⟩ : ∃ wd, xs[k]? = some wd := ⟨_, List.getElem?_eq_getElem hlk⟩
            have hwl : ls[k]? = some wd := by rw [hls, List.getElem?_append_left hlk]; exact hwd
            obtain ⟨gl, rfl, hgl, hcl⟩ := (HRl.out.below HB.out) hne
            obtain ⟨gx, rfl, hgx, hcx⟩ := HRx2.out (by intro e; rw [e] at hlk; exact absurd hlk (Nat.not_lt_zero _))
            obtain ⟨c0, c1, c2⟩ := hcl k wd hwl
            obtain ⟨d0, d1, d2⟩ := hcx k wd hwd
            obtain ⟨bt, hbt⟩ : ∃ bt, bt = mkB wd.text := ⟨_, rfl⟩
            obtain ⟨wa, hwa⟩ : ∃ n, n = wd.a := ⟨_, rfl⟩
            obtain ⟨wb, hwb⟩ : ∃ n, n = wd.b := ⟨_, rfl⟩
            rw [← hbt] at c0 d0
            rw [← hwa] at c1 d1
            rw [← hwb] at c2 d2
            have hx1 : decide ((k : Int) < (xs.length : Int)) = true := decide_eq_true (by omega)
            have hx1N : decide (k < xs.length) = true := decide_eq_true hlk
            have hx2 : decide ((xs.length : Int) ≤ (k : Int)) = false := decide_eq_false (by omega)
            have hx2N : decide (xs.length ≤ k) = false := decide_eq_false (by omega)
            have hxI : (k : Int) < (xs.length : Int) := by omega
            clear hcl hcx hwl hwd hbt hwa hwb hls
            go_upto_region 10 with fail
            refine wp_region_held_drew (S := fun W => W.cell? ⟨gl, k * 3, none⟩ = some (.string bt) ∧ W.cell? ⟨gl, k * 3 + 1, none⟩ = some (.int .i64 (wa : Nat)) ∧ W.cell? ⟨gl, k * 3 + 2, none⟩ = some (.int .i64 (wb : Nat)) ∧ W.cell? ⟨gx, k * 3, none⟩ = some (.string bt) ∧ W.cell? ⟨gx, k * 3 + 1, none⟩ = some (.int .i64 (wa : Nat)) ∧ W.cell? ⟨gx, k * 3 + 2, none⟩ = some (.int .i64 (wb : Nat))) (by kernel_rfl) (⟨c0, c1, c2, d0, d1, d2⟩) (fun hHeld => ?_)
            simp only [List.append, List.size_toArray, List.length_cons, List.length_nil, Nat.reduceAdd, Array.replicate_succ, Array.replicate_zero]
            refine wpAnyH_take (i := 0) (oi := { dst := some 41, op := Op.move (Operand.tmp 8), type := 3, pos := "outright.go:34", after := #[], guard := none }) (v := ?_) rfl (by kernel_rfl) (by kernel_rfl) (by kernel_rfl) (fun _ _ _ h => h) (Or.inl ⟨by kernel_rfl, ?_⟩) hHeld ?_
            rotate_left 1
            · (intro w0 hSw; obtain ⟨s0, s1, s2, s3, s4, s5⟩ := hSw; go_simp; (try with_reducible rfl))
            simp only [Act.put, List.setIfInBounds_toArray, List.set_cons_zero, List.set_cons_succ]
            refine wpAnyH_take (i := 1) (oi := { dst := some 42, op := Op.move (Operand.tmp 5), type := 28, pos := "outright.go:34", after := #[], guard := none }) (v := ?_) rfl (by kernel_rfl) (by kernel_rfl) (by kernel_rfl) (fun _ _ _ h => h) (Or.inl ⟨by kernel_rfl, ?_⟩) hHeld ?_
            rotate_left 1
            · (intro w0 hSw; obtain ⟨s0, s1, s2, s3, s4, s5⟩ := hSw; go_simp; (try with_reducible rfl))
            simp only [Act.put, List.setIfInBounds_toArray, List.set_cons_zero, List.set_cons_succ]
            refine wpAnyH_take (i := 2) (oi := { dst := some 43, op := Op.call { callee := Callee.builtin Builtin.len, args := #[Operand.tmp 42], argTypes := #[28] }, type := 3, pos := "outright.go:34", after := #[{ on := 1, ground := Ground.data }], guard := none }) (v := ?_) rfl (by kernel_rfl) (by kernel_rfl) (by kernel_rfl) (fun _ _ _ h => h) (Or.inl ⟨by kernel_rfl, ?_⟩) hHeld ?_
            rotate_left 1
            · (intro w0 hSw; obtain ⟨s0, s1, s2, s3, s4, s5⟩ := hSw; go_simp; (try with_reducible rfl))
            simp only [Act.put, List.setIfInBounds_toArray, List.set_cons_zero, List.set_cons_succ]
            refine wpAnyH_take (i := 3) (oi := { dst := some 44, op := Op.binOp BinOp.lss 3 (Operand.tmp 41) (Operand.tmp 43) 3, type := 4, pos := "outright.go:34", after := #[{ on := 0, ground := Ground.data }, { on := 2, ground := Ground.data }], guard := none }) (v := ?_) rfl (by kernel_rfl) (by kernel_rfl) (by kernel_rfl) (fun _ _ _ h => h) (Or.inl ⟨by kernel_rfl, ?_⟩) hHeld ?_
            rotate_left 1
            · (intro w0 hSw; obtain ⟨s0, s1, s2, s3, s4, s5⟩ := hSw; go_simp; (try with_reducible rfl))
            simp only [Act.put, List.setIfInBounds_toArray, List.set_cons_zero, List.set_cons_succ]
            refine wpAnyH_take (i := 4) (oi := { dst := some 45, op := Op.move (Operand.tmp 44), type := 4, pos := "outright.go:34", after := #[{ on := 3, ground := Ground.data }], guard := none }) (v := ?_) rfl (by kernel_rfl) (by kernel_rfl) (by kernel_rfl) (fun _ _ _ h => h) (Or.inl ⟨by kernel_rfl, ?_⟩) hHeld ?_
            rotate_left 1
            · (intro w0 hSw; obtain ⟨s0, s1, s2, s3, s4, s5⟩ := hSw; go_simp; (try with_reducible rfl))
            simp only [Act.put, List.setIfInBounds_toArray, List.set_cons_zero, List.set_cons_succ]
            refine wpAnyH_take (i := 5) (oi := { dst := some 46, op := Op.move (Operand.tmp 7), type := 28, pos := "outright.go:34", after := #[{ on := 4, ground := Ground.guard }], guard := some (4, true) }) (v := ?_) rfl (by kernel_rfl) (by kernel_rfl) (by kernel_rfl) (fun _ _ _ h => h) (Or.inl ⟨by kernel_rfl, ?_⟩) hHeld ?_
            rotate_left 1
            · (intro w0 hSw; obtain ⟨s0, s1, s2, s3, s4, s5⟩ := hSw; go_simp; (try with_reducible rfl))
            simp only [Act.put, List.setIfInBounds_toArray, List.set_cons_zero, List.set_cons_succ]
            refine wpAnyH_take (i := 6) (oi := { dst := some 47, op := Op.move (Operand.tmp 8), type := 3, pos := "outright.go:34", after := #[{ on := 4, ground := Ground.guard }], guard := some (4, true) }) (v := ?_) rfl (by kernel_rfl) (by kernel_rfl) (by kernel_rfl) (fun _ _ _ h => h) (Or.inl ⟨by kernel_rfl, ?_⟩) hHeld ?_
            rotate_left 1
            · (intro w0 hSw; obtain ⟨s0, s1, s2, s3, s4, s5⟩ := hSw; go_simp; (try with_reducible rfl))
            simp only [Act.put, List.setIfInBounds_toArray, List.set_cons_zero, List.set_cons_succ]
            refine wpAnyH_take (i := 9) (oi := { dst := some 50, op := Op.move (Operand.tmp 5), type := 28, pos := "outright.go:34", after := #[{ on := 4, ground := Ground.guard }], guard := some (4, true) }) (v := ?_) rfl (by kernel_rfl) (by kernel_rfl) (by kernel_rfl) (fun _ _ _ h => h) (Or.inl ⟨by kernel_rfl, ?_⟩) hHeld ?_
            rotate_left 1
            · (intro w0 hSw; obtain ⟨s0, s1, s2, s3, s4, s5⟩ := hSw; go_simp; (try with_reducible rfl))
            simp only [Act.put, List.setIfInBounds_toArray, List.set_cons_zero, List.set_cons_succ]
            refine wpAnyH_take (i := 10) (oi := { dst := some 51, op := Op.move (Operand.tmp 8), type := 3, pos := "outright.go:34", after := #[{ on := 4, ground := Ground.guard }], guard := some (4, true) }) (v := ?_) rfl (by kernel_rfl) (by kernel_rfl) (by kernel_rfl) (fun _ _ _ h => h) (Or.inl ⟨by kernel_rfl, ?_⟩) hHeld ?_
            rotate_left 1
            · (intro w0 hSw; obtain ⟨s0, s1, s2, s3, s4, s5⟩ := hSw; go_simp; (try with_reducible rfl))
            simp only [Act.put, List.setIfInBounds_toArray, List.set_cons_zero, List.set_cons_succ]
            refine wpAnyH_take (i := 7) (oi := { dst := some 48, op := Op.indexAddr 28 (Operand.tmp 46) (Operand.tmp 47), type := 0, pos := "outright.go:34", after := #[{ on := 5, ground := Ground.data }, { on := 6, ground := Ground.data }, { on := 4, ground := Ground.guard }], guard := some (4, true) }) (v := ?_) rfl (by kernel_rfl) (by kernel_rfl) (by kernel_rfl) (fun _ _ _ h => h) (Or.inl ⟨by kernel_rfl, ?_⟩) hHeld ?_
            rotate_left 1
            · (intro w0 hSw; obtain ⟨s0, s1, s2, s3, s4, s5⟩ := hSw; go_simp; (try with_reducible rfl))
            simp only [Act.put, List.setIfInBounds_toArray, List.set_cons_zero, List.set_cons_succ]
            refine wpAnyH_take (i := 11) (oi := { dst := some 52, op := Op.indexAddr 28 (Operand.tmp 50) (Operand.tmp 51), type := 0, pos := "outright.go:34", after := #[{ on := 9, ground := Ground.data }, { on := 10, ground := Ground.data }, { on := 4, ground := Ground.guard }], guard := some (4, true) }) (v := ?_) rfl (by kernel_rfl) (by kernel_rfl) (by kernel_rfl) (fun _ _ _ h => h) (Or.inl ⟨by kernel_rfl, ?_⟩) hHeld ?_
            rotate_left 1
            · (intro w0 hSw; obtain ⟨s0, s1, s2, s3, s4, s5⟩ := hSw; go_simp; (try with_reducible rfl))
            simp only [Act.put, List.setIfInBounds_toArray, List.set_cons_zero, List.set_cons_succ]
            refine wpAnyH_take (i := 8) (oi := { dst := some 49, op := Op.load 33 (Operand.tmp 48), type := 33, pos := "outright.go:34", after := #[{ on := 7, ground := Ground.data }, { on := 4, ground := Ground.guard }], guard := some (4, true) }) (v := ?_) rfl (by kernel_rfl) (by kernel_rfl) (by kernel_rfl) (fun _ _ _ h => h) (Or.inl ⟨by kernel_rfl, ?_⟩) hHeld ?_
            rotate_left 1
            · (intro w0 hSw; obtain ⟨s0, s1, s2, s3, s4, s5⟩ := hSw; go_simp; (try with_reducible rfl))
            simp only [Act.put, List.setIfInBounds_toArray, List.set_cons_zero, List.set_cons_succ]
            refine wpAnyH_take (i := 12) (oi := { dst := some 53, op := Op.load 33 (Operand.tmp 52), type := 33, pos := "outright.go:34", after := #[{ on := 11, ground := Ground.data }, { on := 4, ground := Ground.guard }], guard := some (4, true) }) (v := ?_) rfl (by kernel_rfl) (by kernel_rfl) (by kernel_rfl) (fun _ _ _ h => h) (Or.inl ⟨by kernel_rfl, ?_⟩) hHeld ?_
            rotate_left 1
            · (intro w0 hSw; obtain ⟨s0, s1, s2, s3, s4, s5⟩ := hSw; go_simp; (try with_reducible rfl))
            simp only [Act.put, List.setIfInBounds_toArray, List.set_cons_zero, List.set_cons_succ]
            refine wpAnyH_take (i := 13) (oi := { dst := some 54, op := Op.binOp BinOp.neq 33 (Operand.tmp 49) (Operand.tmp 53) 33, type := 4, pos := "outright.go:34", after := #[{ on := 8, ground := Ground.data }, { on := 12, ground := Ground.data }, { on := 4, ground := Ground.guard }], guard := some (4, true) }) (v := ?_) rfl (by kernel_rfl) (by kernel_rfl) (by kernel_rfl) (fun _ _ _ h => h) (Or.inl ⟨by kernel_rfl, ?_⟩) hHeld ?_
            rotate_left 1
            · (intro w0 hSw; obtain ⟨s0, s1, s2, s3, s4, s5⟩ := hSw; go_simp; (try with_reducible rfl))
            simp only [Act.put, List.setIfInBounds_toArray, List.set_cons_zero, List.set_cons_succ]
            refine wpAnyH_take (i := 14) (oi := { dst := some 55, op := Op.pick (Operand.tmp 45) (Operand.tmp 54) (Operand.const (Value.bool false)), type := 4, pos := "outright.go:34", after := #[{ on := 4, ground := Ground.data }, { on := 13, ground := Ground.data }], guard := none }) (v := ?_) rfl (by kernel_rfl) (by kernel_rfl) (by kernel_rfl) (fun _ _ _ h => h) (Or.inl ⟨by kernel_rfl, ?_⟩) hHeld ?_
            rotate_left 1
            · (intro w0 hSw; obtain ⟨s0, s1, s2, s3, s4, s5⟩ := hSw; go_simp; (try with_reducible rfl))
            simp only [Act.put, List.setIfInBounds_toArray, List.set_cons_zero, List.set_cons_succ]
            refine wpAnyH_done (by kernel_rfl) ?_ _
            clear c0 c1 c2 d0 d1 d2
            go_wp2
            go_roundw
            case rel => exact ⟨⟨k + 1, by omega, by first | rfl | go_num | simp⟩, (by have h := HB.out; exact ⟨h.os, h.tape, h.output, h.size, h.block⟩)⟩
            case measure => simp [intOf]; omega
          · obtain ⟨j, hj⟩ : ∃ j, k = xs.length + j := ⟨k - xs.length, by omega⟩
            have hjl : j < ys.length := by omega
            obtain ⟨wd, hwd⟩ : ∃ wd, ys[j]? = some wd := ⟨_, List.getElem?_eq_getElem hjl⟩
            have hwl : ls[k]? = some (movW (sa.length + 1) wd) := by rw [hls, hj, List.getElem?_append_right (by omega), show xs.length + j - xs.length = j by omega, List.getElem?_map, hwd]; rfl
            obtain ⟨gl, rfl, hgl, hcl⟩ := (HRl.out.below HB.out) hne
            obtain ⟨gy, rfl, hgy, hcy⟩ := HRy2.out (by intro e; rw [e] at hjl; exact absurd hjl (Nat.not_lt_zero _))
            obtain ⟨c0, c1, c2⟩ := hcl k _ hwl
            obtain ⟨d0, d1, d2⟩ := hcy j wd hwd
            have hbd := HOk.out wd (List.mem_of_getElem? hwd)
            obtain ⟨bt, hbt⟩ : ∃ bt, bt = mkB wd.text := ⟨_, rfl⟩
            obtain ⟨wa, hwa⟩ : ∃ n, n = wd.a := ⟨_, rfl⟩
            obtain ⟨wb, hwb⟩ : ∃ n, n = wd.b := ⟨_, rfl⟩
            obtain ⟨pa, hpa⟩ : ∃ n, n = wa + sa.length := ⟨_, rfl⟩
            obtain ⟨pb, hpb⟩ : ∃ n, n = wb + sa.length := ⟨_, rfl⟩
            obtain ⟨la, hla⟩ : ∃ n, n = wa + (sa.length + 1) := ⟨_, rfl⟩
            obtain ⟨lb, hlb⟩ : ∃ n, n = wb + (sa.length + 1) := ⟨_, rfl⟩
            have c0' : wr.cell? ⟨gl, k * 3, none⟩ = some (.string bt) := by rw [hbt]; exact c0
            have c1' : wr.cell? ⟨gl, k * 3 + 1, none⟩ = some (.int .i64 (la : Nat)) := by rw [hla, hwa]; exact c1
            have c2' : wr.cell? ⟨gl, k * 3 + 2, none⟩ = some (.int .i64 (lb : Nat)) := by rw [hlb, hwb]; exact c2
            rw [← hbt] at d0
            rw [← hwa] at d1
            rw [← hwb] at d2
            have hbd3 := hbd.2.2.1
            have hbd2 := hbd.2.1
            have hbz := HZa.out
            have hpA : IntKind.i64.wrap ((wa : Int) + (ba.size : Int)) = (pa : Int) := by rw [IntWalk.i64_in _ (by omega)]; omega
            have hpB : IntKind.i64.wrap ((wb : Int) + (ba.size : Int)) = (pb : Int) := by rw [IntWalk.i64_in _ (by omega)]; omega
            have hlA : IntKind.i64.wrap ((pa : Int) + 1) = (la : Int) := by rw [IntWalk.i64_in _ (by omega)]; omega
            have hlB : IntKind.i64.wrap ((pb : Int) + 1) = (lb : Int) := by rw [IntWalk.i64_in _ (by omega)]; omega
            have hjw : IntKind.i64.wrap ((k : Int) - (xs.length : Int)) = (j : Int) := by rw [IntWalk.i64_in _ (by omega)]; omega
            have hjI : (j : Int) < (ys.length : Int) := by omega
            have hx1 : decide ((k : Int) < (xs.length : Int)) = false := decide_eq_false (by omega)
            have hx1N : decide (k < xs.length) = false := decide_eq_false (by omega)
            have hx2 : decide ((xs.length : Int) ≤ (k : Int)) = true := decide_eq_true (by omega)
            have hx2N : decide (xs.length ≤ k) = true := decide_eq_true (by omega)
            clear hcl hcy hwl hwd hbt hwa hwb hls hpa hpb hla hlb c0 c1 c2 hbd hbd2 hbd3 hbz hj hjl hlt1 hn
            go_upto_region 10 with fail
            refine wp_region_held_drew (S := fun W => True) (by kernel_rfl) (trivial) (fun hHeld => ?_)
            simp only [List.append, List.size_toArray, List.length_cons, List.length_nil, Nat.reduceAdd, Array.replicate_succ, Array.replicate_zero]
            refine wpAnyH_take (i := 0) (oi := { dst := some 41, op := Op.move (Operand.tmp 8), type := 3, pos := "outright.go:34", after := #[], guard := none }) (v := ?_) rfl (by kernel_rfl) (by kernel_rfl) (by kernel_rfl) (fun _ _ _ h => h) (Or.inl ⟨by kernel_rfl, ?_⟩) hHeld ?_
            rotate_left 1
            · (intro w0 hSw; skip; go_simp; (try with_reducible rfl))
            simp only [Act.put, List.setIfInBounds_toArray, List.set_cons_zero, List.set_cons_succ]
            refine wpAnyH_take (i := 1) (oi := { dst := some 42, op := Op.move (Operand.tmp 5), type := 28, pos := "outright.go:34", after := #[], guard := none }) (v := ?_) rfl (by kernel_rfl) (by kernel_rfl) (by kernel_rfl) (fun _ _ _ h => h) (Or.inl ⟨by kernel_rfl, ?_⟩) hHeld ?_
            rotate_left 1
            · (intro w0 hSw; skip; go_simp; (try with_reducible rfl))
            simp only [Act.put, List.setIfInBounds_toArray, List.set_cons_zero, List.set_cons_succ]
            refine wpAnyH_take (i := 2) (oi := { dst := some 43, op := Op.call { callee := Callee.builtin Builtin.len, args := #[Operand.tmp 42], argTypes := #[28] }, type := 3, pos := "outright.go:34", after := #[{ on := 1, ground := Ground.data }], guard := none }) (v := ?_) rfl (by kernel_rfl) (by kernel_rfl) (by kernel_rfl) (fun _ _ _ h => h) (Or.inl ⟨by kernel_rfl, ?_⟩) hHeld ?_
            rotate_left 1
            · (intro w0 hSw; skip; go_simp; (try with_reducible rfl))
            simp only [Act.put, List.setIfInBounds_toArray, List.set_cons_zero, List.set_cons_succ]
            refine wpAnyH_take (i := 3) (oi := { dst := some 44, op := Op.binOp BinOp.lss 3 (Operand.tmp 41) (Operand.tmp 43) 3, type := 4, pos := "outright.go:34", after := #[{ on := 0, ground := Ground.data }, { on := 2, ground := Ground.data }], guard := none }) (v := ?_) rfl (by kernel_rfl) (by kernel_rfl) (by kernel_rfl) (fun _ _ _ h => h) (Or.inl ⟨by kernel_rfl, ?_⟩) hHeld ?_
            rotate_left 1
            · (intro w0 hSw; skip; go_simp; (try with_reducible rfl))
            simp only [Act.put, List.setIfInBounds_toArray, List.set_cons_zero, List.set_cons_succ]
            refine wpAnyH_take (i := 4) (oi := { dst := some 45, op := Op.move (Operand.tmp 44), type := 4, pos := "outright.go:34", after := #[{ on := 3, ground := Ground.data }], guard := none }) (v := ?_) rfl (by kernel_rfl) (by kernel_rfl) (by kernel_rfl) (fun _ _ _ h => h) (Or.inl ⟨by kernel_rfl, ?_⟩) hHeld ?_
            rotate_left 1
            · (intro w0 hSw; skip; go_simp; (try with_reducible rfl))
            simp only [Act.put, List.setIfInBounds_toArray, List.set_cons_zero, List.set_cons_succ]
            refine wpAnyH_take (i := 5) (oi := { dst := some 46, op := Op.move (Operand.tmp 7), type := 28, pos := "outright.go:34", after := #[{ on := 4, ground := Ground.guard }], guard := some (4, true) }) (v := undef) rfl (by kernel_rfl) (by kernel_rfl) (by kernel_rfl) (fun _ _ _ h => h) (Or.inr ⟨by kernel_rfl, rfl⟩) hHeld ?_
            simp only [Act.put, List.setIfInBounds_toArray, List.set_cons_zero, List.set_cons_succ]
            refine wpAnyH_take (i := 6) (oi := { dst := some 47, op := Op.move (Operand.tmp 8), type := 3, pos := "outright.go:34", after := #[{ on := 4, ground := Ground.guard }], guard := some (4, true) }) (v := undef) rfl (by kernel_rfl) (by kernel_rfl) (by kernel_rfl) (fun _ _ _ h => h) (Or.inr ⟨by kernel_rfl, rfl⟩) hHeld ?_
            simp only [Act.put, List.setIfInBounds_toArray, List.set_cons_zero, List.set_cons_succ]
            refine wpAnyH_take (i := 9) (oi := { dst := some 50, op := Op.move (Operand.tmp 5), type := 28, pos := "outright.go:34", after := #[{ on := 4, ground := Ground.guard }], guard := some (4, true) }) (v := undef) rfl (by kernel_rfl) (by kernel_rfl) (by kernel_rfl) (fun _ _ _ h => h) (Or.inr ⟨by kernel_rfl, rfl⟩) hHeld ?_
            simp only [Act.put, List.setIfInBounds_toArray, List.set_cons_zero, List.set_cons_succ]
            refine wpAnyH_take (i := 10) (oi := { dst := some 51, op := Op.move (Operand.tmp 8), type := 3, pos := "outright.go:34", after := #[{ on := 4, ground := Ground.guard }], guard := some (4, true) }) (v := undef) rfl (by kernel_rfl) (by kernel_rfl) (by kernel_rfl) (fun _ _ _ h => h) (Or.inr ⟨by kernel_rfl, rfl⟩) hHeld ?_
            simp only [Act.put, List.setIfInBounds_toArray, List.set_cons_zero, List.set_cons_succ]
            refine wpAnyH_take (i := 7) (oi := { dst := some 48, op := Op.indexAddr 28 (Operand.tmp 46) (Operand.tmp 47), type := 0, pos := "outright.go:34", after := #[{ on := 5, ground := Ground.data }, { on := 6, ground := Ground.data }, { on := 4, ground := Ground.guard }], guard := some (4, true) }) (v := undef) rfl (by kernel_rfl) (by kernel_rfl) (by kernel_rfl) (fun _ _ _ h => h) (Or.inr ⟨by kernel_rfl, rfl⟩) hHeld ?_
            simp only [Act.put, List.setIfInBounds_toArray, List.set_cons_zero, List.set_cons_succ]
            refine wpAnyH_take (i := 11) (oi := { dst := some 52, op := Op.indexAddr 28 (Operand.tmp 50) (Operand.tmp 51), type := 0, pos := "outright.go:34", after := #[{ on := 9, ground := Ground.data }, { on := 10, ground := Ground.data }, { on := 4, ground := Ground.guard }], guard := some (4, true) }) (v := undef) rfl (by kernel_rfl) (by kernel_rfl) (by kernel_rfl) (fun _ _ _ h => h) (Or.inr ⟨by kernel_rfl, rfl⟩) hHeld ?_
            simp only [Act.put, List.setIfInBounds_toArray, List.set_cons_zero, List.set_cons_succ]
            refine wpAnyH_take (i := 8) (oi := { dst := some 49, op := Op.load 33 (Operand.tmp 48), type := 33, pos := "outright.go:34", after := #[{ on := 7, ground := Ground.data }, { on := 4, ground := Ground.guard }], guard := some (4, true) }) (v := undef) rfl (by kernel_rfl) (by kernel_rfl) (by kernel_rfl) (fun _ _ _ h => h) (Or.inr ⟨by kernel_rfl, rfl⟩) hHeld ?_
            simp only [Act.put, List.setIfInBounds_toArray, List.set_cons_zero, List.set_cons_succ]
            refine wpAnyH_take (i := 12) (oi := { dst := some 53, op := Op.load 33 (Operand.tmp 52), type := 33, pos := "outright.go:34", after := #[{ on := 11, ground := Ground.data }, { on := 4, ground := Ground.guard }], guard := some (4, true) }) (v := undef) rfl (by kernel_rfl) (by kernel_rfl) (by kernel_rfl) (fun _ _ _ h => h) (Or.inr ⟨by kernel_rfl, rfl⟩) hHeld ?_
            simp only [Act.put, List.setIfInBounds_toArray, List.set_cons_zero, List.set_cons_succ]
            refine wpAnyH_take (i := 13) (oi := { dst := some 54, op := Op.binOp BinOp.neq 33 (Operand.tmp 49) (Operand.tmp 53) 33, type := 4, pos := "outright.go:34", after := #[{ on := 8, ground := Ground.data }, { on := 12, ground := Ground.data }, { on := 4, ground := Ground.guard }], guard := some (4, true) }) (v := undef) rfl (by kernel_rfl) (by kernel_rfl) (by kernel_rfl) (fun _ _ _ h => h) (Or.inr ⟨by kernel_rfl, rfl⟩) hHeld ?_
            simp only [Act.put, List.setIfInBounds_toArray, List.set_cons_zero, List.set_cons_succ]
            refine wpAnyH_take (i := 14) (oi := { dst := some 55, op := Op.pick (Operand.tmp 45) (Operand.tmp 54) (Operand.const (Value.bool false)), type := 4, pos := "outright.go:34", after := #[{ on := 4, ground := Ground.data }, { on := 13, ground := Ground.data }], guard := none }) (v := ?_) rfl (by kernel_rfl) (by kernel_rfl) (by kernel_rfl) (fun _ _ _ h => h) (Or.inl ⟨by kernel_rfl, ?_⟩) hHeld ?_
            rotate_left 1
            · (intro w0 hSw; skip; go_simp; (try with_reducible rfl))
            simp only [Act.put, List.setIfInBounds_toArray, List.set_cons_zero, List.set_cons_succ]
            refine wpAnyH_done (by kernel_rfl) ?_ _
            go_upto_region 15 with fail
            have l4 : Below wr.heap.size wr ((wr.alloc (.cells #[.string bt, .int .i64 (la : Nat), .int .i64 (lb : Nat)] 33)).drew) := Below.drew' ((Below.refl _ wr).alloc (Nat.le_refl _) _)
            have e0 := kp' l4 hgl c0'
            have e1 := kp' l4 hgl c1'
            have e2 := kp' l4 hgl c2'
            have f0 : ((wr.alloc (.cells #[.string bt, .int .i64 (la : Nat), .int .i64 (lb : Nat)] 33)).drew).cell? ⟨wr.heap.size, 0, none⟩ = some (.string bt) := by go_simp
            have f1 : ((wr.alloc (.cells #[.string bt, .int .i64 (la : Nat), .int .i64 (lb : Nat)] 33)).drew).cell? ⟨wr.heap.size, 1, none⟩ = some (.int .i64 (la : Nat)) := by go_simp
            have f2 : ((wr.alloc (.cells #[.string bt, .int .i64 (la : Nat), .int .i64 (lb : Nat)] 33)).drew).cell? ⟨wr.heap.size, 2, none⟩ = some (.int .i64 (lb : Nat)) := by go_simp
            have L4 := Lib.hid (HB.out.trans (l4.mono HB.out.size))
            clear c0' c1' c2' d0 d1 d2 l4
            obtain ⟨W4, hW4⟩ : ∃ W4, (wr.alloc (.cells #[.string bt, .int .i64 (la : Nat), .int .i64 (lb : Nat)] 33)).drew = W4 := ⟨_, rfl⟩
            rw [hW4] at e0 e1 e2 f0 f1 f2 L4 ⊢
            clear hW4
            refine wp_region_held_drew (S := fun W => W.cell? ⟨gl, k * 3, none⟩ = some (.string bt) ∧ W.cell? ⟨gl, k * 3 + 1, none⟩ = some (.int .i64 (la : Nat)) ∧ W.cell? ⟨gl, k * 3 + 2, none⟩ = some (.int .i64 (lb : Nat)) ∧ W.cell? ⟨wr.heap.size, 0, none⟩ = some (.string bt) ∧ W.cell? ⟨wr.heap.size, 1, none⟩ = some (.int .i64 (la : Nat)) ∧ W.cell? ⟨wr.heap.size, 2, none⟩ = some (.int .i64 (lb : Nat))) (by kernel_rfl) (⟨e0, e1, e2, f0, f1, f2⟩) (fun hHeld => ?_)
            simp only [List.append, List.size_toArray, List.length_cons, List.length_nil, Nat.reduceAdd, Array.replicate_succ, Array.replicate_zero]
            refine wpAnyH_take (i := 0) (oi := { dst := some 81, op := Op.move (Operand.tmp 7), type := 28, pos := "outright.go:40", after := #[], guard := none }) (v := ?_) rfl (by kernel_rfl) (by kernel_rfl) (by kernel_rfl) (fun _ _ _ h => h) (Or.inl ⟨by kernel_rfl, ?_⟩) hHeld ?_
            rotate_left 1
            · (intro w0 hSw; obtain ⟨s0, s1, s2, s3, s4, s5⟩ := hSw; go_simp; (try with_reducible rfl))
            simp only [Act.put, List.setIfInBounds_toArray, List.set_cons_zero, List.set_cons_succ]
            refine wpAnyH_take (i := 1) (oi := { dst := some 82, op := Op.move (Operand.tmp 8), type := 3, pos := "outright.go:40", after := #[], guard := none }) (v := ?_) rfl (by kernel_rfl) (by kernel_rfl) (by kernel_rfl) (fun _ _ _ h => h) (Or.inl ⟨by kernel_rfl, ?_⟩) hHeld ?_
            rotate_left 1
            · (intro w0 hSw; obtain ⟨s0, s1, s2, s3, s4, s5⟩ := hSw; go_simp; (try with_reducible rfl))
            simp only [Act.put, List.setIfInBounds_toArray, List.set_cons_zero, List.set_cons_succ]
            refine wpAnyH_take (i := 4) (oi := { dst := some 85, op := Op.load 33 (Operand.tmp 9), type := 33, pos := "outright.go:40", after := #[], guard := none }) (v := ?_) rfl (by kernel_rfl) (by kernel_rfl) (by kernel_rfl) (fun _ _ _ h => h) (Or.inl ⟨by kernel_rfl, ?_⟩) hHeld ?_
            rotate_left 1
            · (intro w0 hSw; obtain ⟨s0, s1, s2, s3, s4, s5⟩ := hSw; go_simp; (try with_reducible rfl))
            simp only [Act.put, List.setIfInBounds_toArray, List.set_cons_zero, List.set_cons_succ]
            refine wpAnyH_take (i := 2) (oi := { dst := some 83, op := Op.indexAddr 28 (Operand.tmp 81) (Operand.tmp 82), type := 0, pos := "outright.go:40", after := #[{ on := 0, ground := Ground.data }, { on := 1, ground := Ground.data }], guard := none }) (v := ?_) rfl (by kernel_rfl) (by kernel_rfl) (by kernel_rfl) (fun _ _ _ h => h) (Or.inl ⟨by kernel_rfl, ?_⟩) hHeld ?_
            rotate_left 1
            · (intro w0 hSw; obtain ⟨s0, s1, s2, s3, s4, s5⟩ := hSw; go_simp; (try with_reducible rfl))
            simp only [Act.put, List.setIfInBounds_toArray, List.set_cons_zero, List.set_cons_succ]
            refine wpAnyH_take (i := 3) (oi := { dst := some 84, op := Op.load 33 (Operand.tmp 83), type := 33, pos := "outright.go:40", after := #[{ on := 2, ground := Ground.data }], guard := none }) (v := ?_) rfl (by kernel_rfl) (by kernel_rfl) (by kernel_rfl) (fun _ _ _ h => h) (Or.inl ⟨by kernel_rfl, ?_⟩) hHeld ?_
            rotate_left 1
            · (intro w0 hSw; obtain ⟨s0, s1, s2, s3, s4, s5⟩ := hSw; go_simp; (try with_reducible rfl))
            simp only [Act.put, List.setIfInBounds_toArray, List.set_cons_zero, List.set_cons_succ]
            refine wpAnyH_take (i := 5) (oi := { dst := some 86, op := Op.binOp BinOp.neq 33 (Operand.tmp 84) (Operand.tmp 85) 33, type := 4, pos := "outright.go:40", after := #[{ on := 3, ground := Ground.data }, { on := 4, ground := Ground.data }], guard := none }) (v := ?_) rfl (by kernel_rfl) (by kernel_rfl) (by kernel_rfl) (fun _ _ _ h => h) (Or.inl ⟨by kernel_rfl, ?_⟩) hHeld ?_
            rotate_left 1
            · (intro w0 hSw; obtain ⟨s0, s1, s2, s3, s4, s5⟩ := hSw; go_simp; (try with_reducible rfl))
            simp only [Act.put, List.setIfInBounds_toArray, List.set_cons_zero, List.set_cons_succ]
            refine wpAnyH_done (by kernel_rfl) ?_ _
            clear e0 e1 e2 f0 f1 f2
            go_wp2
            go_roundw
            case rel => exact ⟨⟨k + 1, by omega, by first | rfl | go_num | simp⟩, (by have h := L4.out; exact ⟨h.os, h.tape, h.output, h.size, h.block⟩)⟩
            case measure => simp [intOf]; omega
        · obtain rfl : k = ls.length := by omega
          have KA := Lib.hid (awake_any wr hTr.out ((HS.out.below L3.out).below HB.out))
          go_wp2_with fail
          (with_reducible refine KA.out.mono ?_); rintro _ w5 ⟨rfl, l5⟩
          have L5 := Lib.hid (below2' L3.out (HB.out.trans (l5.mono HB.out.size)))
          go_wp2
          go_ret
          exact ⟨rfl, L5.out⟩
    · have hcA : ¬ (300 : Int) < ((mkB sa).size : Int) := by omega
      have hcB : (300 : Int) < ((mkB sb).size : Int) := by omega
      clear hT hS hsza hszb
      go_enter Tryd.func6, Tryd.ntmps6
      go_wp2
      go_ret
      exact ⟨rfl, Below.refl _ _⟩
  · have hcA : (300 : Int) < ((mkB sa).size : Int) := by omega
    clear hT hS hsza hszb
    go_enter Tryd.func6, Tryd.ntmps6
    go_wp2
    go_ret
    exact ⟨rfl, Below.refl _ _⟩
end Go.Proofs.YtoghdllppecblaaDoor
