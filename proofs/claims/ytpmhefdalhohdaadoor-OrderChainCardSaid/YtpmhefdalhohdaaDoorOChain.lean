/- OrderChain: the walk. -/
import Derived.Test.YtpmhefdalhohdaaDoorOChainJ
import Derived.Test.YtpmhefdalhohdaaDoorVCount
import Derived.Test.YtpmhefdalhohdaaDoorVTold
import Derived.Test.YtpmhefdalhohdaaDoorORefCmp
namespace Go.Proofs.YtpmhefdalhohdaaDoor
open Go.RowKit
set_option linter.unusedVariables false

set_option maxHeartbeats 8000000 in
set_option maxRecDepth 100000 in
theorem chain_a (ta tb tc : VT) (a0 a1 a2 a3 a4 a5 b0 b1 b2 b3 b4 b5 c0 c1 c2 c3 c4 c5 : Value) (ma mb mc : Int) (w : World) (ia : InV w ta #[a0, a1, a2, a3, a4, a5]) (ib : InV w tb #[b0, b1, b2, b3, b4, b5]) (ic : InV w tc #[c0, c1, c2, c3, c4, c5]) (hT : TabU w) (la : lightB ta = true) (lb : lightB tb = true) (lc : lightB tc = true) (ha : mayV ta 0 = ma) (hb : mayV tb 0 = mb) (hc : mayV tc 0 = mc) (p q r s e1 e2 e3 e4 : Int) (KAB : ∀ (W : World) (x y : Value), JV W ta x → JV W tb y → TabU W → Calls Tryd.prog 12 #[x, y] W fun e w' => e = .returned (.tuple #[.int .i64 p, .int .i64 e1]) ∧ Below W.heap.size W w') (KBC : ∀ (W : World) (x y : Value), JV W tb x → JV W tc y → TabU W → Calls Tryd.prog 12 #[x, y] W fun e w' => e = .returned (.tuple #[.int .i64 q, .int .i64 e2]) ∧ Below W.heap.size W w') (KAC : ∀ (W : World) (x y : Value), JV W ta x → JV W tc y → TabU W → Calls Tryd.prog 12 #[x, y] W fun e w' => e = .returned (.tuple #[.int .i64 r, .int .i64 e3]) ∧ Below W.heap.size W w') (KBA : ∀ (W : World) (x y : Value), JV W tb x → JV W ta y → TabU W → Calls Tryd.prog 12 #[x, y] W fun e w' => e = .returned (.tuple #[.int .i64 s, .int .i64 e4]) ∧ Below W.heap.size W w') (z1 : e1 ≠ 0) (z2 : ma ≠ 0) :
    Calls Tryd.prog 8 #[.agg #[a0, a1, a2, a3, a4, a5], .agg #[b0, b1, b2, b3, b4, b5], .agg #[c0, c1, c2, c3, c4, c5]] w fun e w' => e = .returned (.bool true) ∧ Below w.heap.size w w' := by
  have n1 : (e1 != 0) = true := by simpa using z1
  have n2 : (ma != 0) = true := by simpa using z2
  clear z1 z2
  obtain ⟨W0, hW⟩ : ∃ W0, W0 = (((w.alloc (.cells #[a0, a1, a2, a3, a4, a5] 25)).alloc (.cells #[b0, b1, b2, b3, b4, b5] 25)).alloc (.cells #[c0, c1, c2, c3, c4, c5] 25)) := ⟨_, rfl⟩
  have hz : W0.heap.size = w.heap.size + 3 := by rw [hW]; simp
  have PW := Lib.hid (show ∀ W : World, Below W0.heap.size W0 W → Below w.heap.size w W from fun W hbel => by
    have l : Below w.heap.size w W0 := by rw [hW]; exact ((((Below.refl _ _).alloc (Nat.le_refl _) _).alloc (by simp; try omega) _).alloc (by simp; try omega) _)
    exact l.trans (hbel.mono (by omega)))
  have KS := Lib.hid (show ∀ W : World, Below W0.heap.size W0 W → W.cell? ⟨w.heap.size, 0, none⟩ = some a0 ∧ W.cell? ⟨w.heap.size, 1, none⟩ = some a1 ∧ W.cell? ⟨w.heap.size, 2, none⟩ = some a2 ∧ W.cell? ⟨w.heap.size, 3, none⟩ = some a3 ∧ W.cell? ⟨w.heap.size, 4, none⟩ = some a4 ∧ W.cell? ⟨w.heap.size, 5, none⟩ = some a5 ∧ W.cell? ⟨w.heap.size + 1, 0, none⟩ = some b0 ∧ W.cell? ⟨w.heap.size + 1, 1, none⟩ = some b1 ∧ W.cell? ⟨w.heap.size + 1, 2, none⟩ = some b2 ∧ W.cell? ⟨w.heap.size + 1, 3, none⟩ = some b3 ∧ W.cell? ⟨w.heap.size + 1, 4, none⟩ = some b4 ∧ W.cell? ⟨w.heap.size + 1, 5, none⟩ = some b5 ∧ W.cell? ⟨w.heap.size + 2, 0, none⟩ = some c0 ∧ W.cell? ⟨w.heap.size + 2, 1, none⟩ = some c1 ∧ W.cell? ⟨w.heap.size + 2, 2, none⟩ = some c2 ∧ W.cell? ⟨w.heap.size + 2, 3, none⟩ = some c3 ∧ W.cell? ⟨w.heap.size + 2, 4, none⟩ = some c4 ∧ W.cell? ⟨w.heap.size + 2, 5, none⟩ = some c5 from fun W hbel => by
    rw [hW] at hbel
    have Ba := boxed (w := w) (W1 := (w.alloc (.cells #[a0, a1, a2, a3, a4, a5] 25))) rfl (wr := W) ((((Below.refl (w.alloc (.cells #[a0, a1, a2, a3, a4, a5] 25)).heap.size (w.alloc (.cells #[a0, a1, a2, a3, a4, a5] 25))).alloc (by simp only [World.size_alloc]; omega) (.cells #[b0, b1, b2, b3, b4, b5] 25)).alloc (by simp only [World.size_alloc]; omega) (.cells #[c0, c1, c2, c3, c4, c5] 25)).trans (hbel.mono ((((Below.refl (w.alloc (.cells #[a0, a1, a2, a3, a4, a5] 25)).heap.size (w.alloc (.cells #[a0, a1, a2, a3, a4, a5] 25))).alloc (by simp only [World.size_alloc]; omega) (.cells #[b0, b1, b2, b3, b4, b5] 25)).alloc (by simp only [World.size_alloc]; omega) (.cells #[c0, c1, c2, c3, c4, c5] 25)).size)))
    have Bb := boxed (w := (w.alloc (.cells #[a0, a1, a2, a3, a4, a5] 25))) (W1 := ((w.alloc (.cells #[a0, a1, a2, a3, a4, a5] 25)).alloc (.cells #[b0, b1, b2, b3, b4, b5] 25))) rfl (wr := W) (((Below.refl ((w.alloc (.cells #[a0, a1, a2, a3, a4, a5] 25)).alloc (.cells #[b0, b1, b2, b3, b4, b5] 25)).heap.size ((w.alloc (.cells #[a0, a1, a2, a3, a4, a5] 25)).alloc (.cells #[b0, b1, b2, b3, b4, b5] 25))).alloc (by simp only [World.size_alloc]; omega) (.cells #[c0, c1, c2, c3, c4, c5] 25)).trans (hbel.mono (((Below.refl ((w.alloc (.cells #[a0, a1, a2, a3, a4, a5] 25)).alloc (.cells #[b0, b1, b2, b3, b4, b5] 25)).heap.size ((w.alloc (.cells #[a0, a1, a2, a3, a4, a5] 25)).alloc (.cells #[b0, b1, b2, b3, b4, b5] 25))).alloc (by simp only [World.size_alloc]; omega) (.cells #[c0, c1, c2, c3, c4, c5] 25)).size)))
    simp only [World.size_alloc] at Bb
    have Bc := boxed (w := ((w.alloc (.cells #[a0, a1, a2, a3, a4, a5] 25)).alloc (.cells #[b0, b1, b2, b3, b4, b5] 25))) (W1 := (((w.alloc (.cells #[a0, a1, a2, a3, a4, a5] 25)).alloc (.cells #[b0, b1, b2, b3, b4, b5] 25)).alloc (.cells #[c0, c1, c2, c3, c4, c5] 25))) rfl (wr := W) ((Below.refl (((w.alloc (.cells #[a0, a1, a2, a3, a4, a5] 25)).alloc (.cells #[b0, b1, b2, b3, b4, b5] 25)).alloc (.cells #[c0, c1, c2, c3, c4, c5] 25)).heap.size (((w.alloc (.cells #[a0, a1, a2, a3, a4, a5] 25)).alloc (.cells #[b0, b1, b2, b3, b4, b5] 25)).alloc (.cells #[c0, c1, c2, c3, c4, c5] 25))).trans (hbel.mono ((Below.refl (((w.alloc (.cells #[a0, a1, a2, a3, a4, a5] 25)).alloc (.cells #[b0, b1, b2, b3, b4, b5] 25)).alloc (.cells #[c0, c1, c2, c3, c4, c5] 25)).heap.size (((w.alloc (.cells #[a0, a1, a2, a3, a4, a5] 25)).alloc (.cells #[b0, b1, b2, b3, b4, b5] 25)).alloc (.cells #[c0, c1, c2, c3, c4, c5] 25))).size)))
    simp only [World.size_alloc] at Bc
    exact ⟨Ba.1, Ba.2.1, Ba.2.2.1, Ba.2.2.2.1, Ba.2.2.2.2.1, Ba.2.2.2.2.2.1, Bb.1, Bb.2.1, Bb.2.2.1, Bb.2.2.2.1, Bb.2.2.2.2.1, Bb.2.2.2.2.2.1, Bc.1, Bc.2.1, Bc.2.2.1, Bc.2.2.2.1, Bc.2.2.2.2.1, Bc.2.2.2.2.2.1⟩
    )
  have LD := Lib.hid (show ∀ W : World, Below W0.heap.size W0 W → W.rangeAt (w.heap.size) 0 [a0, a1, a2, a3, a4, a5] ∧ W.rangeAt (w.heap.size + 1) 0 [b0, b1, b2, b3, b4, b5] ∧ W.rangeAt (w.heap.size + 1 + 1) 0 [c0, c1, c2, c3, c4, c5] from fun W hbel => by
    obtain ⟨a0, a1, a2, a3, a4, a5, b0, b1, b2, b3, b4, b5, c0, c1, c2, c3, c4, c5⟩ := KS.out W hbel
    exact ⟨range6 a0 a1 a2 a3 a4 a5, range6 b0 b1 b2 b3 b4 b5, range6 c0 c1 c2 c3 c4 c5⟩)
  have HT := Lib.hid (show ∀ W : World, Below W0.heap.size W0 W → TabU W from fun W hbel => hT.below (PW.out W hbel))
  have La := Lib.hid (show ∀ W : World, Below W0.heap.size W0 W → Calls Tryd.prog 11 #[.agg #[a0, a1, a2, a3, a4, a5]] W fun e w' => e = .returned (.bool true) ∧ Below W.heap.size W w' from fun W hbel => by rw [← la]; exact light_any ta _ W (ia.keep (KeepC.below (PW.out W hbel))))
  have Ta := Lib.hid (show ∀ W : World, Below W0.heap.size W0 W → Calls Tryd.prog 13 #[.agg #[a0, a1, a2, a3, a4, a5]] W (ToldP ta W) from fun W hbel => told_any ta _ W (ia.keep (KeepC.below (PW.out W hbel))) (light_ok la).1)
  have Ma := Lib.hid (show ∀ W : World, Below W0.heap.size W0 W → Calls Tryd.prog 14 #[.agg #[a0, a1, a2, a3, a4, a5]] W fun e w' => e = .returned (.int .i64 ma) ∧ Below W.heap.size W w' from fun W hbel => by rw [← ha]; exact refMay_any ta _ W (light_ok la).1 (ia.keep (KeepC.below (PW.out W hbel))))
  have Lb := Lib.hid (show ∀ W : World, Below W0.heap.size W0 W → Calls Tryd.prog 11 #[.agg #[b0, b1, b2, b3, b4, b5]] W fun e w' => e = .returned (.bool true) ∧ Below W.heap.size W w' from fun W hbel => by rw [← lb]; exact light_any tb _ W (ib.keep (KeepC.below (PW.out W hbel))))
  have Tb := Lib.hid (show ∀ W : World, Below W0.heap.size W0 W → Calls Tryd.prog 13 #[.agg #[b0, b1, b2, b3, b4, b5]] W (ToldP tb W) from fun W hbel => told_any tb _ W (ib.keep (KeepC.below (PW.out W hbel))) (light_ok lb).1)
  have Mb := Lib.hid (show ∀ W : World, Below W0.heap.size W0 W → Calls Tryd.prog 14 #[.agg #[b0, b1, b2, b3, b4, b5]] W fun e w' => e = .returned (.int .i64 mb) ∧ Below W.heap.size W w' from fun W hbel => by rw [← hb]; exact refMay_any tb _ W (light_ok lb).1 (ib.keep (KeepC.below (PW.out W hbel))))
  have Lc := Lib.hid (show ∀ W : World, Below W0.heap.size W0 W → Calls Tryd.prog 11 #[.agg #[c0, c1, c2, c3, c4, c5]] W fun e w' => e = .returned (.bool true) ∧ Below W.heap.size W w' from fun W hbel => by rw [← lc]; exact light_any tc _ W (ic.keep (KeepC.below (PW.out W hbel))))
  have Tc := Lib.hid (show ∀ W : World, Below W0.heap.size W0 W → Calls Tryd.prog 13 #[.agg #[c0, c1, c2, c3, c4, c5]] W (ToldP tc W) from fun W hbel => told_any tc _ W (ic.keep (KeepC.below (PW.out W hbel))) (light_ok lc).1)
  have Mc := Lib.hid (show ∀ W : World, Below W0.heap.size W0 W → Calls Tryd.prog 14 #[.agg #[c0, c1, c2, c3, c4, c5]] W fun e w' => e = .returned (.int .i64 mc) ∧ Below W.heap.size W w' from fun W hbel => by rw [← hc]; exact refMay_any tc _ W (light_ok lc).1 (ic.keep (KeepC.below (PW.out W hbel))))
  have H1 := Lib.hid KAB
  have H2 := Lib.hid KBC
  have H3 := Lib.hid KAC
  have H4 := Lib.hid KBA
  clear KAB KBC KAC KBA
  have HW := Lib.hid hW
  clear hW hz hT la ia ha lb ib hb lc ic hc
  go_enter Tryd.func8, Tryd.ntmps8
  go_wp2_with fail
  rw [← HW.out]
  refine (La.out _ (Below.refl _ _)).mono ?_
  rintro e w1 ⟨rfl, l⟩
  have P1 := Lib.hid l
  clear l
  obtain ⟨ka0, ka1, ka2, ka3, ka4, ka5, kb0, kb1, kb2, kb3, kb4, kb5, kc0, kc1, kc2, kc3, kc4, kc5⟩ := KS.out _ P1.out
  go_wp2_with fail
  refine (Lb.out _ P1.out).mono ?_
  rintro e w2 ⟨rfl, l⟩
  have P2 := Lib.hid (P1.out.trans (l.mono P1.out.size))
  clear l
  clear ka0 ka1 ka2 ka3 ka4 ka5 kb0 kb1 kb2 kb3 kb4 kb5 kc0 kc1 kc2 kc3 kc4 kc5
  obtain ⟨ka0, ka1, ka2, ka3, ka4, ka5, kb0, kb1, kb2, kb3, kb4, kb5, kc0, kc1, kc2, kc3, kc4, kc5⟩ := KS.out _ P2.out
  go_wp2_with fail
  refine (Lc.out _ P2.out).mono ?_
  rintro e w3 ⟨rfl, l⟩
  have P3 := Lib.hid (P2.out.trans (l.mono P2.out.size))
  clear l
  clear ka0 ka1 ka2 ka3 ka4 ka5 kb0 kb1 kb2 kb3 kb4 kb5 kc0 kc1 kc2 kc3 kc4 kc5
  obtain ⟨ka0, ka1, ka2, ka3, ka4, ka5, kb0, kb1, kb2, kb3, kb4, kb5, kc0, kc1, kc2, kc3, kc4, kc5⟩ := KS.out _ P3.out
  go_wp2_with fail
  have PD := Lib.hid (below_drew P3.out)
  clear ka0 ka1 ka2 ka3 ka4 ka5 kb0 kb1 kb2 kb3 kb4 kb5 kc0 kc1 kc2 kc3 kc4 kc5
  refine wp_region_held_drew (S := fun W => Below W0.heap.size W0 W) (by kernel_rfl) (PD.out) (fun hHeld => ?_)
  refine wpAnyH_take (i := 0) (oi := { dst := some 31, op := Op.load 25 (Operand.tmp 3), type := 25, pos := "outright.go:52", after := #[], guard := none }) (v := .agg #[a0, a1, a2, a3, a4, a5]) rfl (by kernel_rfl) (by kernel_rfl) (by kernel_rfl) (fun _ _ _ h => h) (yieldsIf_load_mid (by kernel_rfl) 25 (.tmp 3) rfl (w.heap.size) (0) (by kernel_rfl) [a0, a1, a2, a3, a4, a5] _ (fun W hW => (LD.out W hW).1) Tryd.underlying25 rfl (by kernel_rfl)) (by with_reducible assumption) ?_
  simp only [Act.put]
  refine wpAnyH_take (i := 2) (oi := { dst := some 33, op := Op.load 25 (Operand.tmp 4), type := 25, pos := "outright.go:52", after := #[], guard := none }) (v := .agg #[b0, b1, b2, b3, b4, b5]) rfl (by kernel_rfl) (by kernel_rfl) (by kernel_rfl) (fun _ _ _ h => h) (yieldsIf_load_mid (by kernel_rfl) 25 (.tmp 4) rfl (w.heap.size + 1) (0) (by kernel_rfl) [b0, b1, b2, b3, b4, b5] _ (fun W hW => (LD.out W hW).2.1) Tryd.underlying25 rfl (by kernel_rfl)) (by with_reducible assumption) ?_
  simp only [Act.put]
  refine wpAnyH_take (i := 4) (oi := { dst := some 35, op := Op.load 25 (Operand.tmp 5), type := 25, pos := "outright.go:52", after := #[], guard := none }) (v := .agg #[c0, c1, c2, c3, c4, c5]) rfl (by kernel_rfl) (by kernel_rfl) (by kernel_rfl) (fun _ _ _ h => h) (yieldsIf_load_mid (by kernel_rfl) 25 (.tmp 5) rfl (w.heap.size + 1 + 1) (0) (by kernel_rfl) [c0, c1, c2, c3, c4, c5] _ (fun W hW => (LD.out W hW).2.2) Tryd.underlying25 rfl (by kernel_rfl)) (by with_reducible assumption) ?_
  simp only [Act.put]
  refine wpAnyH_ready (rs := [1]) (by kernel_rfl) (by simp) ?_
  refine AllReadyH.cons (o := { dst := some 32, op := Op.call { callee := Callee.value (Operand.func 13), args := #[Operand.tmp 31], argTypes := #[25] }, type := 20, pos := "outright.go:52", after := #[{ on := 0, ground := Ground.data }], guard := none }) rfl (fun K hK => ?_) AllReadyH.nil
  go_simp
  go_wp2_with (go_at_call 13; (with_reducible refine (Ta.out _ PD.out).mono ?_); rintro e wa ⟨xa, rfl, hx, l⟩; have hSa := PD.out.trans (l.mono PD.out.size); have Pa := Lib.hid hSa; have Ja := Lib.hid (jv_self hx); clear hx l)
  refine hK.out _ _ (by with_reducible assumption) (fun hHeld => ?_)
  clear hK K
  refine wpAnyH_ready (rs := [3]) (by kernel_rfl) (by simp) ?_
  refine AllReadyH.cons (o := { dst := some 34, op := Op.call { callee := Callee.value (Operand.func 13), args := #[Operand.tmp 33], argTypes := #[25] }, type := 20, pos := "outright.go:52", after := #[{ on := 2, ground := Ground.data }, { on := 1, ground := Ground.chain }], guard := none }) rfl (fun K hK => ?_) AllReadyH.nil
  go_simp
  go_wp2_with (go_at_call 13; (with_reducible refine (Tb.out _ Pa.out).mono ?_); rintro e wb ⟨xb, rfl, hx, l⟩; have hSb := Pa.out.trans (l.mono Pa.out.size); have Pb := Lib.hid hSb; have Jab := Lib.hid (JV.below Ja.out l); have Jb := Lib.hid (jv_self hx); clear hx l)
  refine hK.out _ _ (by with_reducible assumption) (fun hHeld => ?_)
  clear hK K
  refine wpAnyH_ready (rs := [5]) (by kernel_rfl) (by simp) ?_
  refine AllReadyH.cons (o := { dst := some 36, op := Op.call { callee := Callee.value (Operand.func 13), args := #[Operand.tmp 35], argTypes := #[25] }, type := 20, pos := "outright.go:52", after := #[{ on := 4, ground := Ground.data }, { on := 3, ground := Ground.chain }], guard := none }) rfl (fun K hK => ?_) AllReadyH.nil
  go_simp
  go_wp2_with (go_at_call 13; (with_reducible refine (Tc.out _ Pb.out).mono ?_); rintro e wc ⟨xc, rfl, hx, l⟩; have hSc := Pb.out.trans (l.mono Pb.out.size); have Pc := Lib.hid hSc; have Jac := Lib.hid (JV.below Jab.out l); have Jbc := Lib.hid (JV.below Jb.out l); have Jc := Lib.hid (jv_self hx); clear hx l)
  refine hK.out _ _ (by with_reducible assumption) (fun hHeld => ?_)
  clear hK K
  refine wpAnyH_ready (rs := [6]) (by kernel_rfl) (by simp) ?_
  refine AllReadyH.cons (o := { dst := some 7, op := Op.assign (Operand.tmp 32), type := 20, pos := "outright.go:52", after := #[{ on := 1, ground := Ground.data }, { on := 5, ground := Ground.chain }, { on := 0, ground := Ground.phase }, { on := 1, ground := Ground.phase }, { on := 2, ground := Ground.textOnly Departure.lateStores }, { on := 3, ground := Ground.textOnly Departure.lateStoresUnsure }, { on := 4, ground := Ground.textOnly Departure.lateStores }, { on := 5, ground := Ground.textOnly Departure.lateStoresUnsure }], guard := none }) rfl (fun K hK => ?_) AllReadyH.nil
  go_simp
  refine hK.out _ _ (by with_reducible assumption) (fun hHeld => ?_)
  clear hK K
  refine wpAnyH_ready (rs := [7]) (by kernel_rfl) (by simp) ?_
  refine AllReadyH.cons (o := { dst := some 8, op := Op.assign (Operand.tmp 34), type := 20, pos := "outright.go:52", after := #[{ on := 3, ground := Ground.data }, { on := 6, ground := Ground.chain }, { on := 0, ground := Ground.phase }, { on := 1, ground := Ground.phase }, { on := 2, ground := Ground.phase }, { on := 3, ground := Ground.phase }, { on := 4, ground := Ground.textOnly Departure.lateStores }, { on := 5, ground := Ground.textOnly Departure.lateStoresUnsure }, { on := 6, ground := Ground.phase }], guard := none }) rfl (fun K hK => ?_) AllReadyH.nil
  go_simp
  refine hK.out _ _ (by with_reducible assumption) (fun hHeld => ?_)
  clear hK K
  refine wpAnyH_ready (rs := [8]) (by kernel_rfl) (by simp) ?_
  refine AllReadyH.cons (o := { dst := some 9, op := Op.assign (Operand.tmp 36), type := 20, pos := "outright.go:52", after := #[{ on := 5, ground := Ground.data }, { on := 7, ground := Ground.chain }, { on := 0, ground := Ground.phase }, { on := 1, ground := Ground.phase }, { on := 2, ground := Ground.phase }, { on := 3, ground := Ground.phase }, { on := 4, ground := Ground.phase }, { on := 5, ground := Ground.phase }, { on := 6, ground := Ground.phase }, { on := 7, ground := Ground.phase }], guard := none }) rfl (fun K hK => ?_) AllReadyH.nil
  go_simp
  refine hK.out _ _ (by with_reducible assumption) (fun hHeld => ?_)
  clear hK K
  refine wpAnyH_done (by kernel_rfl) ?_ _
  clear hHeld hSa hSb hSc
  all_goals
    go_wp2_with fail
    refine (H1.out _ _ _ Jac.out Jbc.out (HT.out _ Pc.out)).mono ?_
    rintro e v1 ⟨rfl, l⟩
    have R1 := Lib.hid (Pc.out.trans (l.mono Pc.out.size))
    have Ga1 := Lib.hid (JV.below Jac.out l)
    have Gb1 := Lib.hid (JV.below Jbc.out l)
    have Gc1 := Lib.hid (JV.below Jc.out l)
    clear l
    go_wp2_with fail
    refine (H2.out _ _ _ Gb1.out Gc1.out (HT.out _ R1.out)).mono ?_
    rintro e v2 ⟨rfl, l⟩
    have R2 := Lib.hid (R1.out.trans (l.mono R1.out.size))
    have Ga2 := Lib.hid (JV.below Ga1.out l)
    have Gb2 := Lib.hid (JV.below Gb1.out l)
    have Gc2 := Lib.hid (JV.below Gc1.out l)
    clear l
    go_wp2_with fail
    refine (H3.out _ _ _ Ga2.out Gc2.out (HT.out _ R2.out)).mono ?_
    rintro e v3 ⟨rfl, l⟩
    have R3 := Lib.hid (R2.out.trans (l.mono R2.out.size))
    have Ga3 := Lib.hid (JV.below Ga2.out l)
    have Gb3 := Lib.hid (JV.below Gb2.out l)
    have Gc3 := Lib.hid (JV.below Gc2.out l)
    clear l
    go_wp2_with fail
    refine (H4.out _ _ _ Gb3.out Ga3.out (HT.out _ R3.out)).mono ?_
    rintro e v4 ⟨rfl, l⟩
    have R4 := Lib.hid (R3.out.trans (l.mono R3.out.size))
    clear l
    obtain ⟨ka0, ka1, ka2, ka3, ka4, ka5, kb0, kb1, kb2, kb3, kb4, kb5, kc0, kc1, kc2, kc3, kc4, kc5⟩ := KS.out _ R4.out
    go_wp2_with fail
    refine (Ma.out _ R4.out).mono ?_
    rintro e w4 ⟨rfl, l⟩
    have P4 := Lib.hid (R4.out.trans (l.mono R4.out.size))
    clear l
    clear ka0 ka1 ka2 ka3 ka4 ka5 kb0 kb1 kb2 kb3 kb4 kb5 kc0 kc1 kc2 kc3 kc4 kc5
    obtain ⟨ka0, ka1, ka2, ka3, ka4, ka5, kb0, kb1, kb2, kb3, kb4, kb5, kc0, kc1, kc2, kc3, kc4, kc5⟩ := KS.out _ P4.out
    go_wp2_with fail
    refine (awake_any _ (HT.out _ P4.out)).mono ?_
    rintro e wz ⟨rfl, l⟩
    have Pz := Lib.hid ((PW.out _ P4.out).trans (l.mono (PW.out _ P4.out).size))
    clear l
    go_wp2_with fail
    go_ret
    exact ⟨rfl, Pz.out⟩
set_option maxHeartbeats 8000000 in
set_option maxRecDepth 100000 in
theorem chain_b (ta tb tc : VT) (a0 a1 a2 a3 a4 a5 b0 b1 b2 b3 b4 b5 c0 c1 c2 c3 c4 c5 : Value) (ma mb mc : Int) (w : World) (ia : InV w ta #[a0, a1, a2, a3, a4, a5]) (ib : InV w tb #[b0, b1, b2, b3, b4, b5]) (ic : InV w tc #[c0, c1, c2, c3, c4, c5]) (hT : TabU w) (la : lightB ta = true) (lb : lightB tb = true) (lc : lightB tc = true) (ha : mayV ta 0 = ma) (hb : mayV tb 0 = mb) (hc : mayV tc 0 = mc) (p q r s e1 e2 e3 e4 : Int) (KAB : ∀ (W : World) (x y : Value), JV W ta x → JV W tb y → TabU W → Calls Tryd.prog 12 #[x, y] W fun e w' => e = .returned (.tuple #[.int .i64 p, .int .i64 e1]) ∧ Below W.heap.size W w') (KBC : ∀ (W : World) (x y : Value), JV W tb x → JV W tc y → TabU W → Calls Tryd.prog 12 #[x, y] W fun e w' => e = .returned (.tuple #[.int .i64 q, .int .i64 e2]) ∧ Below W.heap.size W w') (KAC : ∀ (W : World) (x y : Value), JV W ta x → JV W tc y → TabU W → Calls Tryd.prog 12 #[x, y] W fun e w' => e = .returned (.tuple #[.int .i64 r, .int .i64 e3]) ∧ Below W.heap.size W w') (KBA : ∀ (W : World) (x y : Value), JV W tb x → JV W ta y → TabU W → Calls Tryd.prog 12 #[x, y] W fun e w' => e = .returned (.tuple #[.int .i64 s, .int .i64 e4]) ∧ Below W.heap.size W w') (z1 : e1 ≠ 0) (z2 : mb ≠ 0) (z0 : ma = 0) :
    Calls Tryd.prog 8 #[.agg #[a0, a1, a2, a3, a4, a5], .agg #[b0, b1, b2, b3, b4, b5], .agg #[c0, c1, c2, c3, c4, c5]] w fun e w' => e = .returned (.bool true) ∧ Below w.heap.size w w' := by
  subst z0
  have n1 : (e1 != 0) = true := by simpa using z1
  have n2 : (mb != 0) = true := by simpa using z2
  clear z1 z2
  obtain ⟨W0, hW⟩ : ∃ W0, W0 = (((w.alloc (.cells #[a0, a1, a2, a3, a4, a5] 25)).alloc (.cells #[b0, b1, b2, b3, b4, b5] 25)).alloc (.cells #[c0, c1, c2, c3, c4, c5] 25)) := ⟨_, rfl⟩
  have hz : W0.heap.size = w.heap.size + 3 := by rw [hW]; simp
  have PW := Lib.hid (show ∀ W : World, Below W0.heap.size W0 W → Below w.heap.size w W from fun W hbel => by
    have l : Below w.heap.size w W0 := by rw [hW]; exact ((((Below.refl _ _).alloc (Nat.le_refl _) _).alloc (by simp; try omega) _).alloc (by simp; try omega) _)
    exact l.trans (hbel.mono (by omega)))
  have KS := Lib.hid (show ∀ W : World, Below W0.heap.size W0 W → W.cell? ⟨w.heap.size, 0, none⟩ = some a0 ∧ W.cell? ⟨w.heap.size, 1, none⟩ = some a1 ∧ W.cell? ⟨w.heap.size, 2, none⟩ = some a2 ∧ W.cell? ⟨w.heap.size, 3, none⟩ = some a3 ∧ W.cell? ⟨w.heap.size, 4, none⟩ = some a4 ∧ W.cell? ⟨w.heap.size, 5, none⟩ = some a5 ∧ W.cell? ⟨w.heap.size + 1, 0, none⟩ = some b0 ∧ W.cell? ⟨w.heap.size + 1, 1, none⟩ = some b1 ∧ W.cell? ⟨w.heap.size + 1, 2, none⟩ = some b2 ∧ W.cell? ⟨w.heap.size + 1, 3, none⟩ = some b3 ∧ W.cell? ⟨w.heap.size + 1, 4, none⟩ = some b4 ∧ W.cell? ⟨w.heap.size + 1, 5, none⟩ = some b5 ∧ W.cell? ⟨w.heap.size + 2, 0, none⟩ = some c0 ∧ W.cell? ⟨w.heap.size + 2, 1, none⟩ = some c1 ∧ W.cell? ⟨w.heap.size + 2, 2, none⟩ = some c2 ∧ W.cell? ⟨w.heap.size + 2, 3, none⟩ = some c3 ∧ W.cell? ⟨w.heap.size + 2, 4, none⟩ = some c4 ∧ W.cell? ⟨w.heap.size + 2, 5, none⟩ = some c5 from fun W hbel => by
    rw [hW] at hbel
    have Ba := boxed (w := w) (W1 := (w.alloc (.cells #[a0, a1, a2, a3, a4, a5] 25))) rfl (wr := W) ((((Below.refl (w.alloc (.cells #[a0, a1, a2, a3, a4, a5] 25)).heap.size (w.alloc (.cells #[a0, a1, a2, a3, a4, a5] 25))).alloc (by simp only [World.size_alloc]; omega) (.cells #[b0, b1, b2, b3, b4, b5] 25)).alloc (by simp only [World.size_alloc]; omega) (.cells #[c0, c1, c2, c3, c4, c5] 25)).trans (hbel.mono ((((Below.refl (w.alloc (.cells #[a0, a1, a2, a3, a4, a5] 25)).heap.size (w.alloc (.cells #[a0, a1, a2, a3, a4, a5] 25))).alloc (by simp only [World.size_alloc]; omega) (.cells #[b0, b1, b2, b3, b4, b5] 25)).alloc (by simp only [World.size_alloc]; omega) (.cells #[c0, c1, c2, c3, c4, c5] 25)).size)))
    have Bb := boxed (w := (w.alloc (.cells #[a0, a1, a2, a3, a4, a5] 25))) (W1 := ((w.alloc (.cells #[a0, a1, a2, a3, a4, a5] 25)).alloc (.cells #[b0, b1, b2, b3, b4, b5] 25))) rfl (wr := W) (((Below.refl ((w.alloc (.cells #[a0, a1, a2, a3, a4, a5] 25)).alloc (.cells #[b0, b1, b2, b3, b4, b5] 25)).heap.size ((w.alloc (.cells #[a0, a1, a2, a3, a4, a5] 25)).alloc (.cells #[b0, b1, b2, b3, b4, b5] 25))).alloc (by simp only [World.size_alloc]; omega) (.cells #[c0, c1, c2, c3, c4, c5] 25)).trans (hbel.mono (((Below.refl ((w.alloc (.cells #[a0, a1, a2, a3, a4, a5] 25)).alloc (.cells #[b0, b1, b2, b3, b4, b5] 25)).heap.size ((w.alloc (.cells #[a0, a1, a2, a3, a4, a5] 25)).alloc (.cells #[b0, b1, b2, b3, b4, b5] 25))).alloc (by simp only [World.size_alloc]; omega) (.cells #[c0, c1, c2, c3, c4, c5] 25)).size)))
    simp only [World.size_alloc] at Bb
    have Bc := boxed (w := ((w.alloc (.cells #[a0, a1, a2, a3, a4, a5] 25)).alloc (.cells #[b0, b1, b2, b3, b4, b5] 25))) (W1 := (((w.alloc (.cells #[a0, a1, a2, a3, a4, a5] 25)).alloc (.cells #[b0, b1, b2, b3, b4, b5] 25)).alloc (.cells #[c0, c1, c2, c3, c4, c5] 25))) rfl (wr := W) ((Below.refl (((w.alloc (.cells #[a0, a1, a2, a3, a4, a5] 25)).alloc (.cells #[b0, b1, b2, b3, b4, b5] 25)).alloc (.cells #[c0, c1, c2, c3, c4, c5] 25)).heap.size (((w.alloc (.cells #[a0, a1, a2, a3, a4, a5] 25)).alloc (.cells #[b0, b1, b2, b3, b4, b5] 25)).alloc (.cells #[c0, c1, c2, c3, c4, c5] 25))).trans (hbel.mono ((Below.refl (((w.alloc (.cells #[a0, a1, a2, a3, a4, a5] 25)).alloc (.cells #[b0, b1, b2, b3, b4, b5] 25)).alloc (.cells #[c0, c1, c2, c3, c4, c5] 25)).heap.size (((w.alloc (.cells #[a0, a1, a2, a3, a4, a5] 25)).alloc (.cells #[b0, b1, b2, b3, b4, b5] 25)).alloc (.cells #[c0, c1, c2, c3, c4, c5] 25))).size)))
    simp only [World.size_alloc] at Bc
    exact ⟨Ba.1, Ba.2.1, Ba.2.2.1, Ba.2.2.2.1, Ba.2.2.2.2.1, Ba.2.2.2.2.2.1, Bb.1, Bb.2.1, Bb.2.2.1, Bb.2.2.2.1, Bb.2.2.2.2.1, Bb.2.2.2.2.2.1, Bc.1, Bc.2.1, Bc.2.2.1, Bc.2.2.2.1, Bc.2.2.2.2.1, Bc.2.2.2.2.2.1⟩
    )
  have LD := Lib.hid (show ∀ W : World, Below W0.heap.size W0 W → W.rangeAt (w.heap.size) 0 [a0, a1, a2, a3, a4, a5] ∧ W.rangeAt (w.heap.size + 1) 0 [b0, b1, b2, b3, b4, b5] ∧ W.rangeAt (w.heap.size + 1 + 1) 0 [c0, c1, c2, c3, c4, c5] from fun W hbel => by
    obtain ⟨a0, a1, a2, a3, a4, a5, b0, b1, b2, b3, b4, b5, c0, c1, c2, c3, c4, c5⟩ := KS.out W hbel
    exact ⟨range6 a0 a1 a2 a3 a4 a5, range6 b0 b1 b2 b3 b4 b5, range6 c0 c1 c2 c3 c4 c5⟩)
  have HT := Lib.hid (show ∀ W : World, Below W0.heap.size W0 W → TabU W from fun W hbel => hT.below (PW.out W hbel))
  have La := Lib.hid (show ∀ W : World, Below W0.heap.size W0 W → Calls Tryd.prog 11 #[.agg #[a0, a1, a2, a3, a4, a5]] W fun e w' => e = .returned (.bool true) ∧ Below W.heap.size W w' from fun W hbel => by rw [← la]; exact light_any ta _ W (ia.keep (KeepC.below (PW.out W hbel))))
  have Ta := Lib.hid (show ∀ W : World, Below W0.heap.size W0 W → Calls Tryd.prog 13 #[.agg #[a0, a1, a2, a3, a4, a5]] W (ToldP ta W) from fun W hbel => told_any ta _ W (ia.keep (KeepC.below (PW.out W hbel))) (light_ok la).1)
  have Ma := Lib.hid (show ∀ W : World, Below W0.heap.size W0 W → Calls Tryd.prog 14 #[.agg #[a0, a1, a2, a3, a4, a5]] W fun e w' => e = .returned (.int .i64 0) ∧ Below W.heap.size W w' from fun W hbel => by have q := refMay_any ta _ W (light_ok la).1 (ia.keep (KeepC.below (PW.out W hbel))); rw [ha] at q; exact q)
  have Lb := Lib.hid (show ∀ W : World, Below W0.heap.size W0 W → Calls Tryd.prog 11 #[.agg #[b0, b1, b2, b3, b4, b5]] W fun e w' => e = .returned (.bool true) ∧ Below W.heap.size W w' from fun W hbel => by rw [← lb]; exact light_any tb _ W (ib.keep (KeepC.below (PW.out W hbel))))
  have Tb := Lib.hid (show ∀ W : World, Below W0.heap.size W0 W → Calls Tryd.prog 13 #[.agg #[b0, b1, b2, b3, b4, b5]] W (ToldP tb W) from fun W hbel => told_any tb _ W (ib.keep (KeepC.below (PW.out W hbel))) (light_ok lb).1)
  have Mb := Lib.hid (show ∀ W : World, Below W0.heap.size W0 W → Calls Tryd.prog 14 #[.agg #[b0, b1, b2, b3, b4, b5]] W fun e w' => e = .returned (.int .i64 mb) ∧ Below W.heap.size W w' from fun W hbel => by rw [← hb]; exact refMay_any tb _ W (light_ok lb).1 (ib.keep (KeepC.below (PW.out W hbel))))
  have Lc := Lib.hid (show ∀ W : World, Below W0.heap.size W0 W → Calls Tryd.prog 11 #[.agg #[c0, c1, c2, c3, c4, c5]] W fun e w' => e = .returned (.bool true) ∧ Below W.heap.size W w' from fun W hbel => by rw [← lc]; exact light_any tc _ W (ic.keep (KeepC.below (PW.out W hbel))))
  have Tc := Lib.hid (show ∀ W : World, Below W0.heap.size W0 W → Calls Tryd.prog 13 #[.agg #[c0, c1, c2, c3, c4, c5]] W (ToldP tc W) from fun W hbel => told_any tc _ W (ic.keep (KeepC.below (PW.out W hbel))) (light_ok lc).1)
  have Mc := Lib.hid (show ∀ W : World, Below W0.heap.size W0 W → Calls Tryd.prog 14 #[.agg #[c0, c1, c2, c3, c4, c5]] W fun e w' => e = .returned (.int .i64 mc) ∧ Below W.heap.size W w' from fun W hbel => by rw [← hc]; exact refMay_any tc _ W (light_ok lc).1 (ic.keep (KeepC.below (PW.out W hbel))))
  have H1 := Lib.hid KAB
  have H2 := Lib.hid KBC
  have H3 := Lib.hid KAC
  have H4 := Lib.hid KBA
  clear KAB KBC KAC KBA
  have HW := Lib.hid hW
  clear hW hz hT la ia ha lb ib hb lc ic hc
  go_enter Tryd.func8, Tryd.ntmps8
  go_wp2_with fail
  rw [← HW.out]
  refine (La.out _ (Below.refl _ _)).mono ?_
  rintro e w1 ⟨rfl, l⟩
  have P1 := Lib.hid l
  clear l
  obtain ⟨ka0, ka1, ka2, ka3, ka4, ka5, kb0, kb1, kb2, kb3, kb4, kb5, kc0, kc1, kc2, kc3, kc4, kc5⟩ := KS.out _ P1.out
  go_wp2_with fail
  refine (Lb.out _ P1.out).mono ?_
  rintro e w2 ⟨rfl, l⟩
  have P2 := Lib.hid (P1.out.trans (l.mono P1.out.size))
  clear l
  clear ka0 ka1 ka2 ka3 ka4 ka5 kb0 kb1 kb2 kb3 kb4 kb5 kc0 kc1 kc2 kc3 kc4 kc5
  obtain ⟨ka0, ka1, ka2, ka3, ka4, ka5, kb0, kb1, kb2, kb3, kb4, kb5, kc0, kc1, kc2, kc3, kc4, kc5⟩ := KS.out _ P2.out
  go_wp2_with fail
  refine (Lc.out _ P2.out).mono ?_
  rintro e w3 ⟨rfl, l⟩
  have P3 := Lib.hid (P2.out.trans (l.mono P2.out.size))
  clear l
  clear ka0 ka1 ka2 ka3 ka4 ka5 kb0 kb1 kb2 kb3 kb4 kb5 kc0 kc1 kc2 kc3 kc4 kc5
  obtain ⟨ka0, ka1, ka2, ka3, ka4, ka5, kb0, kb1, kb2, kb3, kb4, kb5, kc0, kc1, kc2, kc3, kc4, kc5⟩ := KS.out _ P3.out
  go_wp2_with fail
  have PD := Lib.hid (below_drew P3.out)
  clear ka0 ka1 ka2 ka3 ka4 ka5 kb0 kb1 kb2 kb3 kb4 kb5 kc0 kc1 kc2 kc3 kc4 kc5
  refine wp_region_held_drew (S := fun W => Below W0.heap.size W0 W) (by kernel_rfl) (PD.out) (fun hHeld => ?_)
  refine wpAnyH_take (i := 0) (oi := { dst := some 31, op := Op.load 25 (Operand.tmp 3), type := 25, pos := "outright.go:52", after := #[], guard := none }) (v := .agg #[a0, a1, a2, a3, a4, a5]) rfl (by kernel_rfl) (by kernel_rfl) (by kernel_rfl) (fun _ _ _ h => h) (yieldsIf_load_mid (by kernel_rfl) 25 (.tmp 3) rfl (w.heap.size) (0) (by kernel_rfl) [a0, a1, a2, a3, a4, a5] _ (fun W hW => (LD.out W hW).1) Tryd.underlying25 rfl (by kernel_rfl)) (by with_reducible assumption) ?_
  simp only [Act.put]
  refine wpAnyH_take (i := 2) (oi := { dst := some 33, op := Op.load 25 (Operand.tmp 4), type := 25, pos := "outright.go:52", after := #[], guard := none }) (v := .agg #[b0, b1, b2, b3, b4, b5]) rfl (by kernel_rfl) (by kernel_rfl) (by kernel_rfl) (fun _ _ _ h => h) (yieldsIf_load_mid (by kernel_rfl) 25 (.tmp 4) rfl (w.heap.size + 1) (0) (by kernel_rfl) [b0, b1, b2, b3, b4, b5] _ (fun W hW => (LD.out W hW).2.1) Tryd.underlying25 rfl (by kernel_rfl)) (by with_reducible assumption) ?_
  simp only [Act.put]
  refine wpAnyH_take (i := 4) (oi := { dst := some 35, op := Op.load 25 (Operand.tmp 5), type := 25, pos := "outright.go:52", after := #[], guard := none }) (v := .agg #[c0, c1, c2, c3, c4, c5]) rfl (by kernel_rfl) (by kernel_rfl) (by kernel_rfl) (fun _ _ _ h => h) (yieldsIf_load_mid (by kernel_rfl) 25 (.tmp 5) rfl (w.heap.size + 1 + 1) (0) (by kernel_rfl) [c0, c1, c2, c3, c4, c5] _ (fun W hW => (LD.out W hW).2.2) Tryd.underlying25 rfl (by kernel_rfl)) (by with_reducible assumption) ?_
  simp only [Act.put]
  refine wpAnyH_ready (rs := [1]) (by kernel_rfl) (by simp) ?_
  refine AllReadyH.cons (o := { dst := some 32, op := Op.call { callee := Callee.value (Operand.func 13), args := #[Operand.tmp 31], argTypes := #[25] }, type := 20, pos := "outright.go:52", after := #[{ on := 0, ground := Ground.data }], guard := none }) rfl (fun K hK => ?_) AllReadyH.nil
  go_simp
  go_wp2_with (go_at_call 13; (with_reducible refine (Ta.out _ PD.out).mono ?_); rintro e wa ⟨xa, rfl, hx, l⟩; have hSa := PD.out.trans (l.mono PD.out.size); have Pa := Lib.hid hSa; have Ja := Lib.hid (jv_self hx); clear hx l)
  refine hK.out _ _ (by with_reducible assumption) (fun hHeld => ?_)
  clear hK K
  refine wpAnyH_ready (rs := [3]) (by kernel_rfl) (by simp) ?_
  refine AllReadyH.cons (o := { dst := some 34, op := Op.call { callee := Callee.value (Operand.func 13), args := #[Operand.tmp 33], argTypes := #[25] }, type := 20, pos := "outright.go:52", after := #[{ on := 2, ground := Ground.data }, { on := 1, ground := Ground.chain }], guard := none }) rfl (fun K hK => ?_) AllReadyH.nil
  go_simp
  go_wp2_with (go_at_call 13; (with_reducible refine (Tb.out _ Pa.out).mono ?_); rintro e wb ⟨xb, rfl, hx, l⟩; have hSb := Pa.out.trans (l.mono Pa.out.size); have Pb := Lib.hid hSb; have Jab := Lib.hid (JV.below Ja.out l); have Jb := Lib.hid (jv_self hx); clear hx l)
  refine hK.out _ _ (by with_reducible assumption) (fun hHeld => ?_)
  clear hK K
  refine wpAnyH_ready (rs := [5]) (by kernel_rfl) (by simp) ?_
  refine AllReadyH.cons (o := { dst := some 36, op := Op.call { callee := Callee.value (Operand.func 13), args := #[Operand.tmp 35], argTypes := #[25] }, type := 20, pos := "outright.go:52", after := #[{ on := 4, ground := Ground.data }, { on := 3, ground := Ground.chain }], guard := none }) rfl (fun K hK => ?_) AllReadyH.nil
  go_simp
  go_wp2_with (go_at_call 13; (with_reducible refine (Tc.out _ Pb.out).mono ?_); rintro e wc ⟨xc, rfl, hx, l⟩; have hSc := Pb.out.trans (l.mono Pb.out.size); have Pc := Lib.hid hSc; have Jac := Lib.hid (JV.below Jab.out l); have Jbc := Lib.hid (JV.below Jb.out l); have Jc := Lib.hid (jv_self hx); clear hx l)
  refine hK.out _ _ (by with_reducible assumption) (fun hHeld => ?_)
  clear hK K
  refine wpAnyH_ready (rs := [6]) (by kernel_rfl) (by simp) ?_
  refine AllReadyH.cons (o := { dst := some 7, op := Op.assign (Operand.tmp 32), type := 20, pos := "outright.go:52", after := #[{ on := 1, ground := Ground.data }, { on := 5, ground := Ground.chain }, { on := 0, ground := Ground.phase }, { on := 1, ground := Ground.phase }, { on := 2, ground := Ground.textOnly Departure.lateStores }, { on := 3, ground := Ground.textOnly Departure.lateStoresUnsure }, { on := 4, ground := Ground.textOnly Departure.lateStores }, { on := 5, ground := Ground.textOnly Departure.lateStoresUnsure }], guard := none }) rfl (fun K hK => ?_) AllReadyH.nil
  go_simp
  refine hK.out _ _ (by with_reducible assumption) (fun hHeld => ?_)
  clear hK K
  refine wpAnyH_ready (rs := [7]) (by kernel_rfl) (by simp) ?_
  refine AllReadyH.cons (o := { dst := some 8, op := Op.assign (Operand.tmp 34), type := 20, pos := "outright.go:52", after := #[{ on := 3, ground := Ground.data }, { on := 6, ground := Ground.chain }, { on := 0, ground := Ground.phase }, { on := 1, ground := Ground.phase }, { on := 2, ground := Ground.phase }, { on := 3, ground := Ground.phase }, { on := 4, ground := Ground.textOnly Departure.lateStores }, { on := 5, ground := Ground.textOnly Departure.lateStoresUnsure }, { on := 6, ground := Ground.phase }], guard := none }) rfl (fun K hK => ?_) AllReadyH.nil
  go_simp
  refine hK.out _ _ (by with_reducible assumption) (fun hHeld => ?_)
  clear hK K
  refine wpAnyH_ready (rs := [8]) (by kernel_rfl) (by simp) ?_
  refine AllReadyH.cons (o := { dst := some 9, op := Op.assign (Operand.tmp 36), type := 20, pos := "outright.go:52", after := #[{ on := 5, ground := Ground.data }, { on := 7, ground := Ground.chain }, { on := 0, ground := Ground.phase }, { on := 1, ground := Ground.phase }, { on := 2, ground := Ground.phase }, { on := 3, ground := Ground.phase }, { on := 4, ground := Ground.phase }, { on := 5, ground := Ground.phase }, { on := 6, ground := Ground.phase }, { on := 7, ground := Ground.phase }], guard := none }) rfl (fun K hK => ?_) AllReadyH.nil
  go_simp
  refine hK.out _ _ (by with_reducible assumption) (fun hHeld => ?_)
  clear hK K
  refine wpAnyH_done (by kernel_rfl) ?_ _
  clear hHeld hSa hSb hSc
  all_goals
    go_wp2_with fail
    refine (H1.out _ _ _ Jac.out Jbc.out (HT.out _ Pc.out)).mono ?_
    rintro e v1 ⟨rfl, l⟩
    have R1 := Lib.hid (Pc.out.trans (l.mono Pc.out.size))
    have Ga1 := Lib.hid (JV.below Jac.out l)
    have Gb1 := Lib.hid (JV.below Jbc.out l)
    have Gc1 := Lib.hid (JV.below Jc.out l)
    clear l
    go_wp2_with fail
    refine (H2.out _ _ _ Gb1.out Gc1.out (HT.out _ R1.out)).mono ?_
    rintro e v2 ⟨rfl, l⟩
    have R2 := Lib.hid (R1.out.trans (l.mono R1.out.size))
    have Ga2 := Lib.hid (JV.below Ga1.out l)
    have Gb2 := Lib.hid (JV.below Gb1.out l)
    have Gc2 := Lib.hid (JV.below Gc1.out l)
    clear l
    go_wp2_with fail
    refine (H3.out _ _ _ Ga2.out Gc2.out (HT.out _ R2.out)).mono ?_
    rintro e v3 ⟨rfl, l⟩
    have R3 := Lib.hid (R2.out.trans (l.mono R2.out.size))
    have Ga3 := Lib.hid (JV.below Ga2.out l)
    have Gb3 := Lib.hid (JV.below Gb2.out l)
    have Gc3 := Lib.hid (JV.below Gc2.out l)
    clear l
    go_wp2_with fail
    refine (H4.out _ _ _ Gb3.out Ga3.out (HT.out _ R3.out)).mono ?_
    rintro e v4 ⟨rfl, l⟩
    have R4 := Lib.hid (R3.out.trans (l.mono R3.out.size))
    clear l
    obtain ⟨ka0, ka1, ka2, ka3, ka4, ka5, kb0, kb1, kb2, kb3, kb4, kb5, kc0, kc1, kc2, kc3, kc4, kc5⟩ := KS.out _ R4.out
    go_wp2_with fail
    refine (Ma.out _ R4.out).mono ?_
    rintro e w4 ⟨rfl, l⟩
    have P4 := Lib.hid (R4.out.trans (l.mono R4.out.size))
    clear l
    clear ka0 ka1 ka2 ka3 ka4 ka5 kb0 kb1 kb2 kb3 kb4 kb5 kc0 kc1 kc2 kc3 kc4 kc5
    obtain ⟨ka0, ka1, ka2, ka3, ka4, ka5, kb0, kb1, kb2, kb3, kb4, kb5, kc0, kc1, kc2, kc3, kc4, kc5⟩ := KS.out _ P4.out
    go_wp2_with fail
    refine (Mb.out _ P4.out).mono ?_
    rintro e w5 ⟨rfl, l⟩
    have P5 := Lib.hid (P4.out.trans (l.mono P4.out.size))
    clear l
    clear ka0 ka1 ka2 ka3 ka4 ka5 kb0 kb1 kb2 kb3 kb4 kb5 kc0 kc1 kc2 kc3 kc4 kc5
    obtain ⟨ka0, ka1, ka2, ka3, ka4, ka5, kb0, kb1, kb2, kb3, kb4, kb5, kc0, kc1, kc2, kc3, kc4, kc5⟩ := KS.out _ P5.out
    go_wp2_with fail
    refine (awake_any _ (HT.out _ P5.out)).mono ?_
    rintro e wz ⟨rfl, l⟩
    have Pz := Lib.hid ((PW.out _ P5.out).trans (l.mono (PW.out _ P5.out).size))
    clear l
    go_wp2_with fail
    go_ret
    exact ⟨rfl, Pz.out⟩
set_option maxHeartbeats 8000000 in
set_option maxRecDepth 100000 in
theorem chain_c (ta tb tc : VT) (a0 a1 a2 a3 a4 a5 b0 b1 b2 b3 b4 b5 c0 c1 c2 c3 c4 c5 : Value) (ma mb mc : Int) (w : World) (ia : InV w ta #[a0, a1, a2, a3, a4, a5]) (ib : InV w tb #[b0, b1, b2, b3, b4, b5]) (ic : InV w tc #[c0, c1, c2, c3, c4, c5]) (hT : TabU w) (la : lightB ta = true) (lb : lightB tb = true) (lc : lightB tc = true) (ha : mayV ta 0 = ma) (hb : mayV tb 0 = mb) (hc : mayV tc 0 = mc) (p q r s e1 e2 e3 e4 : Int) (KAB : ∀ (W : World) (x y : Value), JV W ta x → JV W tb y → TabU W → Calls Tryd.prog 12 #[x, y] W fun e w' => e = .returned (.tuple #[.int .i64 p, .int .i64 e1]) ∧ Below W.heap.size W w') (KBC : ∀ (W : World) (x y : Value), JV W tb x → JV W tc y → TabU W → Calls Tryd.prog 12 #[x, y] W fun e w' => e = .returned (.tuple #[.int .i64 q, .int .i64 e2]) ∧ Below W.heap.size W w') (KAC : ∀ (W : World) (x y : Value), JV W ta x → JV W tc y → TabU W → Calls Tryd.prog 12 #[x, y] W fun e w' => e = .returned (.tuple #[.int .i64 r, .int .i64 e3]) ∧ Below W.heap.size W w') (KBA : ∀ (W : World) (x y : Value), JV W tb x → JV W ta y → TabU W → Calls Tryd.prog 12 #[x, y] W fun e w' => e = .returned (.tuple #[.int .i64 s, .int .i64 e4]) ∧ Below W.heap.size W w') (y1 : e1 = 0) (z1 : e2 ≠ 0) (z2 : mc ≠ 0) (z0 : ma = 0) (z3 : mb = 0) :
    Calls Tryd.prog 8 #[.agg #[a0, a1, a2, a3, a4, a5], .agg #[b0, b1, b2, b3, b4, b5], .agg #[c0, c1, c2, c3, c4, c5]] w fun e w' => e = .returned (.bool true) ∧ Below w.heap.size w w' := by
  subst z0 z3 y1
  have n1 : (e2 != 0) = true := by simpa using z1
  have n2 : (mc != 0) = true := by simpa using z2
  clear z1 z2
  obtain ⟨W0, hW⟩ : ∃ W0, W0 = (((w.alloc (.cells #[a0, a1, a2, a3, a4, a5] 25)).alloc (.cells #[b0, b1, b2, b3, b4, b5] 25)).alloc (.cells #[c0, c1, c2, c3, c4, c5] 25)) := ⟨_, rfl⟩
  have hz : W0.heap.size = w.heap.size + 3 := by rw [hW]; simp
  have PW := Lib.hid (show ∀ W : World, Below W0.heap.size W0 W → Below w.heap.size w W from fun W hbel => by
    have l : Below w.heap.size w W0 := by rw [hW]; exact ((((Below.refl _ _).alloc (Nat.le_refl _) _).alloc (by simp; try omega) _).alloc (by simp; try omega) _)
    exact l.trans (hbel.mono (by omega)))
  have KS := Lib.hid (show ∀ W : World, Below W0.heap.size W0 W → W.cell? ⟨w.heap.size, 0, none⟩ = some a0 ∧ W.cell? ⟨w.heap.size, 1, none⟩ = some a1 ∧ W.cell? ⟨w.heap.size, 2, none⟩ = some a2 ∧ W.cell? ⟨w.heap.size, 3, none⟩ = some a3 ∧ W.cell? ⟨w.heap.size, 4, none⟩ = some a4 ∧ W.cell? ⟨w.heap.size, 5, none⟩ = some a5 ∧ W.cell? ⟨w.heap.size + 1, 0, none⟩ = some b0 ∧ W.cell? ⟨w.heap.size + 1, 1, none⟩ = some b1 ∧ W.cell? ⟨w.heap.size + 1, 2, none⟩ = some b2 ∧ W.cell? ⟨w.heap.size + 1, 3, none⟩ = some b3 ∧ W.cell? ⟨w.heap.size + 1, 4, none⟩ = some b4 ∧ W.cell? ⟨w.heap.size + 1, 5, none⟩ = some b5 ∧ W.cell? ⟨w.heap.size + 2, 0, none⟩ = some c0 ∧ W.cell? ⟨w.heap.size + 2, 1, none⟩ = some c1 ∧ W.cell? ⟨w.heap.size + 2, 2, none⟩ = some c2 ∧ W.cell? ⟨w.heap.size + 2, 3, none⟩ = some c3 ∧ W.cell? ⟨w.heap.size + 2, 4, none⟩ = some c4 ∧ W.cell? ⟨w.heap.size + 2, 5, none⟩ = some c5 from fun W hbel => by
    rw [hW] at hbel
    have Ba := boxed (w := w) (W1 := (w.alloc (.cells #[a0, a1, a2, a3, a4, a5] 25))) rfl (wr := W) ((((Below.refl (w.alloc (.cells #[a0, a1, a2, a3, a4, a5] 25)).heap.size (w.alloc (.cells #[a0, a1, a2, a3, a4, a5] 25))).alloc (by simp only [World.size_alloc]; omega) (.cells #[b0, b1, b2, b3, b4, b5] 25)).alloc (by simp only [World.size_alloc]; omega) (.cells #[c0, c1, c2, c3, c4, c5] 25)).trans (hbel.mono ((((Below.refl (w.alloc (.cells #[a0, a1, a2, a3, a4, a5] 25)).heap.size (w.alloc (.cells #[a0, a1, a2, a3, a4, a5] 25))).alloc (by simp only [World.size_alloc]; omega) (.cells #[b0, b1, b2, b3, b4, b5] 25)).alloc (by simp only [World.size_alloc]; omega) (.cells #[c0, c1, c2, c3, c4, c5] 25)).size)))
    have Bb := boxed (w := (w.alloc (.cells #[a0, a1, a2, a3, a4, a5] 25))) (W1 := ((w.alloc (.cells #[a0, a1, a2, a3, a4, a5] 25)).alloc (.cells #[b0, b1, b2, b3, b4, b5] 25))) rfl (wr := W) (((Below.refl ((w.alloc (.cells #[a0, a1, a2, a3, a4, a5] 25)).alloc (.cells #[b0, b1, b2, b3, b4, b5] 25)).heap.size ((w.alloc (.cells #[a0, a1, a2, a3, a4, a5] 25)).alloc (.cells #[b0, b1, b2, b3, b4, b5] 25))).alloc (by simp only [World.size_alloc]; omega) (.cells #[c0, c1, c2, c3, c4, c5] 25)).trans (hbel.mono (((Below.refl ((w.alloc (.cells #[a0, a1, a2, a3, a4, a5] 25)).alloc (.cells #[b0, b1, b2, b3, b4, b5] 25)).heap.size ((w.alloc (.cells #[a0, a1, a2, a3, a4, a5] 25)).alloc (.cells #[b0, b1, b2, b3, b4, b5] 25))).alloc (by simp only [World.size_alloc]; omega) (.cells #[c0, c1, c2, c3, c4, c5] 25)).size)))
    simp only [World.size_alloc] at Bb
    have Bc := boxed (w := ((w.alloc (.cells #[a0, a1, a2, a3, a4, a5] 25)).alloc (.cells #[b0, b1, b2, b3, b4, b5] 25))) (W1 := (((w.alloc (.cells #[a0, a1, a2, a3, a4, a5] 25)).alloc (.cells #[b0, b1, b2, b3, b4, b5] 25)).alloc (.cells #[c0, c1, c2, c3, c4, c5] 25))) rfl (wr := W) ((Below.refl (((w.alloc (.cells #[a0, a1, a2, a3, a4, a5] 25)).alloc (.cells #[b0, b1, b2, b3, b4, b5] 25)).alloc (.cells #[c0, c1, c2, c3, c4, c5] 25)).heap.size (((w.alloc (.cells #[a0, a1, a2, a3, a4, a5] 25)).alloc (.cells #[b0, b1, b2, b3, b4, b5] 25)).alloc (.cells #[c0, c1, c2, c3, c4, c5] 25))).trans (hbel.mono ((Below.refl (((w.alloc (.cells #[a0, a1, a2, a3, a4, a5] 25)).alloc (.cells #[b0, b1, b2, b3, b4, b5] 25)).alloc (.cells #[c0, c1, c2, c3, c4, c5] 25)).heap.size (((w.alloc (.cells #[a0, a1, a2, a3, a4, a5] 25)).alloc (.cells #[b0, b1, b2, b3, b4, b5] 25)).alloc (.cells #[c0, c1, c2, c3, c4, c5] 25))).size)))
    simp only [World.size_alloc] at Bc
    exact ⟨Ba.1, Ba.2.1, Ba.2.2.1, Ba.2.2.2.1, Ba.2.2.2.2.1, Ba.2.2.2.2.2.1, Bb.1, Bb.2.1, Bb.2.2.1, Bb.2.2.2.1, Bb.2.2.2.2.1, Bb.2.2.2.2.2.1, Bc.1, Bc.2.1, Bc.2.2.1, Bc.2.2.2.1, Bc.2.2.2.2.1, Bc.2.2.2.2.2.1⟩
    )
  have LD := Lib.hid (show ∀ W : World, Below W0.heap.size W0 W → W.rangeAt (w.heap.size) 0 [a0, a1, a2, a3, a4, a5] ∧ W.rangeAt (w.heap.size + 1) 0 [b0, b1, b2, b3, b4, b5] ∧ W.rangeAt (w.heap.size + 1 + 1) 0 [c0, c1, c2, c3, c4, c5] from fun W hbel => by
    obtain ⟨a0, a1, a2, a3, a4, a5, b0, b1, b2, b3, b4, b5, c0, c1, c2, c3, c4, c5⟩ := KS.out W hbel
    exact ⟨range6 a0 a1 a2 a3 a4 a5, range6 b0 b1 b2 b3 b4 b5, range6 c0 c1 c2 c3 c4 c5⟩)
  have HT := Lib.hid (show ∀ W : World, Below W0.heap.size W0 W → TabU W from fun W hbel => hT.below (PW.out W hbel))
  have La := Lib.hid (show ∀ W : World, Below W0.heap.size W0 W → Calls Tryd.prog 11 #[.agg #[a0, a1, a2, a3, a4, a5]] W fun e w' => e = .returned (.bool true) ∧ Below W.heap.size W w' from fun W hbel => by rw [← la]; exact light_any ta _ W (ia.keep (KeepC.below (PW.out W hbel))))
  have Ta := Lib.hid (show ∀ W : World, Below W0.heap.size W0 W → Calls Tryd.prog 13 #[.agg #[a0, a1, a2, a3, a4, a5]] W (ToldP ta W) from fun W hbel => told_any ta _ W (ia.keep (KeepC.below (PW.out W hbel))) (light_ok la).1)
  have Ma := Lib.hid (show ∀ W : World, Below W0.heap.size W0 W → Calls Tryd.prog 14 #[.agg #[a0, a1, a2, a3, a4, a5]] W fun e w' => e = .returned (.int .i64 0) ∧ Below W.heap.size W w' from fun W hbel => by have q := refMay_any ta _ W (light_ok la).1 (ia.keep (KeepC.below (PW.out W hbel))); rw [ha] at q; exact q)
  have Lb := Lib.hid (show ∀ W : World, Below W0.heap.size W0 W → Calls Tryd.prog 11 #[.agg #[b0, b1, b2, b3, b4, b5]] W fun e w' => e = .returned (.bool true) ∧ Below W.heap.size W w' from fun W hbel => by rw [← lb]; exact light_any tb _ W (ib.keep (KeepC.below (PW.out W hbel))))
  have Tb := Lib.hid (show ∀ W : World, Below W0.heap.size W0 W → Calls Tryd.prog 13 #[.agg #[b0, b1, b2, b3, b4, b5]] W (ToldP tb W) from fun W hbel => told_any tb _ W (ib.keep (KeepC.below (PW.out W hbel))) (light_ok lb).1)
  have Mb := Lib.hid (show ∀ W : World, Below W0.heap.size W0 W → Calls Tryd.prog 14 #[.agg #[b0, b1, b2, b3, b4, b5]] W fun e w' => e = .returned (.int .i64 0) ∧ Below W.heap.size W w' from fun W hbel => by have q := refMay_any tb _ W (light_ok lb).1 (ib.keep (KeepC.below (PW.out W hbel))); rw [hb] at q; exact q)
  have Lc := Lib.hid (show ∀ W : World, Below W0.heap.size W0 W → Calls Tryd.prog 11 #[.agg #[c0, c1, c2, c3, c4, c5]] W fun e w' => e = .returned (.bool true) ∧ Below W.heap.size W w' from fun W hbel => by rw [← lc]; exact light_any tc _ W (ic.keep (KeepC.below (PW.out W hbel))))
  have Tc := Lib.hid (show ∀ W : World, Below W0.heap.size W0 W → Calls Tryd.prog 13 #[.agg #[c0, c1, c2, c3, c4, c5]] W (ToldP tc W) from fun W hbel => told_any tc _ W (ic.keep (KeepC.below (PW.out W hbel))) (light_ok lc).1)
  have Mc := Lib.hid (show ∀ W : World, Below W0.heap.size W0 W → Calls Tryd.prog 14 #[.agg #[c0, c1, c2, c3, c4, c5]] W fun e w' => e = .returned (.int .i64 mc) ∧ Below W.heap.size W w' from fun W hbel => by rw [← hc]; exact refMay_any tc _ W (light_ok lc).1 (ic.keep (KeepC.below (PW.out W hbel))))
  have H1 := Lib.hid KAB
  have H2 := Lib.hid KBC
  have H3 := Lib.hid KAC
  have H4 := Lib.hid KBA
  clear KAB KBC KAC KBA
  have HW := Lib.hid hW
  clear hW hz hT la ia ha lb ib hb lc ic hc
  go_enter Tryd.func8, Tryd.ntmps8
  go_wp2_with fail
  rw [← HW.out]
  refine (La.out _ (Below.refl _ _)).mono ?_
  rintro e w1 ⟨rfl, l⟩
  have P1 := Lib.hid l
  clear l
  obtain ⟨ka0, ka1, ka2, ka3, ka4, ka5, kb0, kb1, kb2, kb3, kb4, kb5, kc0, kc1, kc2, kc3, kc4, kc5⟩ := KS.out _ P1.out
  go_wp2_with fail
  refine (Lb.out _ P1.out).mono ?_
  rintro e w2 ⟨rfl, l⟩
  have P2 := Lib.hid (P1.out.trans (l.mono P1.out.size))
  clear l
  clear ka0 ka1 ka2 ka3 ka4 ka5 kb0 kb1 kb2 kb3 kb4 kb5 kc0 kc1 kc2 kc3 kc4 kc5
  obtain ⟨ka0, ka1, ka2, ka3, ka4, ka5, kb0, kb1, kb2, kb3, kb4, kb5, kc0, kc1, kc2, kc3, kc4, kc5⟩ := KS.out _ P2.out
  go_wp2_with fail
  refine (Lc.out _ P2.out).mono ?_
  rintro e w3 ⟨rfl, l⟩
  have P3 := Lib.hid (P2.out.trans (l.mono P2.out.size))
  clear l
  clear ka0 ka1 ka2 ka3 ka4 ka5 kb0 kb1 kb2 kb3 kb4 kb5 kc0 kc1 kc2 kc3 kc4 kc5
  obtain ⟨ka0, ka1, ka2, ka3, ka4, ka5, kb0, kb1, kb2, kb3, kb4, kb5, kc0, kc1, kc2, kc3, kc4, kc5⟩ := KS.out _ P3.out
  go_wp2_with fail
  have PD := Lib.hid (below_drew P3.out)
  clear ka0 ka1 ka2 ka3 ka4 ka5 kb0 kb1 kb2 kb3 kb4 kb5 kc0 kc1 kc2 kc3 kc4 kc5
  refine wp_region_held_drew (S := fun W => Below W0.heap.size W0 W) (by kernel_rfl) (PD.out) (fun hHeld => ?_)
  refine wpAnyH_take (i := 0) (oi := { dst := some 31, op := Op.load 25 (Operand.tmp 3), type := 25, pos := "outright.go:52", after := #[], guard := none }) (v := .agg #[a0, a1, a2, a3, a4, a5]) rfl (by kernel_rfl) (by kernel_rfl) (by kernel_rfl) (fun _ _ _ h => h) (yieldsIf_load_mid (by kernel_rfl) 25 (.tmp 3) rfl (w.heap.size) (0) (by kernel_rfl) [a0, a1, a2, a3, a4, a5] _ (fun W hW => (LD.out W hW).1) Tryd.underlying25 rfl (by kernel_rfl)) (by with_reducible assumption) ?_
  simp only [Act.put]
  refine wpAnyH_take (i := 2) (oi := { dst := some 33, op := Op.load 25 (Operand.tmp 4), type := 25, pos := "outright.go:52", after := #[], guard := none }) (v := .agg #[b0, b1, b2, b3, b4, b5]) rfl (by kernel_rfl) (by kernel_rfl) (by kernel_rfl) (fun _ _ _ h => h) (yieldsIf_load_mid (by kernel_rfl) 25 (.tmp 4) rfl (w.heap.size + 1) (0) (by kernel_rfl) [b0, b1, b2, b3, b4, b5] _ (fun W hW => (LD.out W hW).2.1) Tryd.underlying25 rfl (by kernel_rfl)) (by with_reducible assumption) ?_
  simp only [Act.put]
  refine wpAnyH_take (i := 4) (oi := { dst := some 35, op := Op.load 25 (Operand.tmp 5), type := 25, pos := "outright.go:52", after := #[], guard := none }) (v := .agg #[c0, c1, c2, c3, c4, c5]) rfl (by kernel_rfl) (by kernel_rfl) (by kernel_rfl) (fun _ _ _ h => h) (yieldsIf_load_mid (by kernel_rfl) 25 (.tmp 5) rfl (w.heap.size + 1 + 1) (0) (by kernel_rfl) [c0, c1, c2, c3, c4, c5] _ (fun W hW => (LD.out W hW).2.2) Tryd.underlying25 rfl (by kernel_rfl)) (by with_reducible assumption) ?_
  simp only [Act.put]
  refine wpAnyH_ready (rs := [1]) (by kernel_rfl) (by simp) ?_
  refine AllReadyH.cons (o := { dst := some 32, op := Op.call { callee := Callee.value (Operand.func 13), args := #[Operand.tmp 31], argTypes := #[25] }, type := 20, pos := "outright.go:52", after := #[{ on := 0, ground := Ground.data }], guard := none }) rfl (fun K hK => ?_) AllReadyH.nil
  go_simp
  go_wp2_with (go_at_call 13; (with_reducible refine (Ta.out _ PD.out).mono ?_); rintro e wa ⟨xa, rfl, hx, l⟩; have hSa := PD.out.trans (l.mono PD.out.size); have Pa := Lib.hid hSa; have Ja := Lib.hid (jv_self hx); clear hx l)
  refine hK.out _ _ (by with_reducible assumption) (fun hHeld => ?_)
  clear hK K
  refine wpAnyH_ready (rs := [3]) (by kernel_rfl) (by simp) ?_
  refine AllReadyH.cons (o := { dst := some 34, op := Op.call { callee := Callee.value (Operand.func 13), args := #[Operand.tmp 33], argTypes := #[25] }, type := 20, pos := "outright.go:52", after := #[{ on := 2, ground := Ground.data }, { on := 1, ground := Ground.chain }], guard := none }) rfl (fun K hK => ?_) AllReadyH.nil
  go_simp
  go_wp2_with (go_at_call 13; (with_reducible refine (Tb.out _ Pa.out).mono ?_); rintro e wb ⟨xb, rfl, hx, l⟩; have hSb := Pa.out.trans (l.mono Pa.out.size); have Pb := Lib.hid hSb; have Jab := Lib.hid (JV.below Ja.out l); have Jb := Lib.hid (jv_self hx); clear hx l)
  refine hK.out _ _ (by with_reducible assumption) (fun hHeld => ?_)
  clear hK K
  refine wpAnyH_ready (rs := [5]) (by kernel_rfl) (by simp) ?_
  refine AllReadyH.cons (o := { dst := some 36, op := Op.call { callee := Callee.value (Operand.func 13), args := #[Operand.tmp 35], argTypes := #[25] }, type := 20, pos := "outright.go:52", after := #[{ on := 4, ground := Ground.data }, { on := 3, ground := Ground.chain }], guard := none }) rfl (fun K hK => ?_) AllReadyH.nil
  go_simp
  go_wp2_with (go_at_call 13; (with_reducible refine (Tc.out _ Pb.out).mono ?_); rintro e wc ⟨xc, rfl, hx, l⟩; have hSc := Pb.out.trans (l.mono Pb.out.size); have Pc := Lib.hid hSc; have Jac := Lib.hid (JV.below Jab.out l); have Jbc := Lib.hid (JV.below Jb.out l); have Jc := Lib.hid (jv_self hx); clear hx l)
  refine hK.out _ _ (by with_reducible assumption) (fun hHeld => ?_)
  clear hK K
  refine wpAnyH_ready (rs := [6]) (by kernel_rfl) (by simp) ?_
  refine AllReadyH.cons (o := { dst := some 7, op := Op.assign (Operand.tmp 32), type := 20, pos := "outright.go:52", after := #[{ on := 1, ground := Ground.data }, { on := 5, ground := Ground.chain }, { on := 0, ground := Ground.phase }, { on := 1, ground := Ground.phase }, { on := 2, ground := Ground.textOnly Departure.lateStores }, { on := 3, ground := Ground.textOnly Departure.lateStoresUnsure }, { on := 4, ground := Ground.textOnly Departure.lateStores }, { on := 5, ground := Ground.textOnly Departure.lateStoresUnsure }], guard := none }) rfl (fun K hK => ?_) AllReadyH.nil
  go_simp
  refine hK.out _ _ (by with_reducible assumption) (fun hHeld => ?_)
  clear hK K
  refine wpAnyH_ready (rs := [7]) (by kernel_rfl) (by simp) ?_
  refine AllReadyH.cons (o := { dst := some 8, op := Op.assign (Operand.tmp 34), type := 20, pos := "outright.go:52", after := #[{ on := 3, ground := Ground.data }, { on := 6, ground := Ground.chain }, { on := 0, ground := Ground.phase }, { on := 1, ground := Ground.phase }, { on := 2, ground := Ground.phase }, { on := 3, ground := Ground.phase }, { on := 4, ground := Ground.textOnly Departure.lateStores }, { on := 5, ground := Ground.textOnly Departure.lateStoresUnsure }, { on := 6, ground := Ground.phase }], guard := none }) rfl (fun K hK => ?_) AllReadyH.nil
  go_simp
  refine hK.out _ _ (by with_reducible assumption) (fun hHeld => ?_)
  clear hK K
  refine wpAnyH_ready (rs := [8]) (by kernel_rfl) (by simp) ?_
  refine AllReadyH.cons (o := { dst := some 9, op := Op.assign (Operand.tmp 36), type := 20, pos := "outright.go:52", after := #[{ on := 5, ground := Ground.data }, { on := 7, ground := Ground.chain }, { on := 0, ground := Ground.phase }, { on := 1, ground := Ground.phase }, { on := 2, ground := Ground.phase }, { on := 3, ground := Ground.phase }, { on := 4, ground := Ground.phase }, { on := 5, ground := Ground.phase }, { on := 6, ground := Ground.phase }, { on := 7, ground := Ground.phase }], guard := none }) rfl (fun K hK => ?_) AllReadyH.nil
  go_simp
  refine hK.out _ _ (by with_reducible assumption) (fun hHeld => ?_)
  clear hK K
  refine wpAnyH_done (by kernel_rfl) ?_ _
  clear hHeld hSa hSb hSc
  all_goals
    go_wp2_with fail
    refine (H1.out _ _ _ Jac.out Jbc.out (HT.out _ Pc.out)).mono ?_
    rintro e v1 ⟨rfl, l⟩
    have R1 := Lib.hid (Pc.out.trans (l.mono Pc.out.size))
    have Ga1 := Lib.hid (JV.below Jac.out l)
    have Gb1 := Lib.hid (JV.below Jbc.out l)
    have Gc1 := Lib.hid (JV.below Jc.out l)
    clear l
    go_wp2_with fail
    refine (H2.out _ _ _ Gb1.out Gc1.out (HT.out _ R1.out)).mono ?_
    rintro e v2 ⟨rfl, l⟩
    have R2 := Lib.hid (R1.out.trans (l.mono R1.out.size))
    have Ga2 := Lib.hid (JV.below Ga1.out l)
    have Gb2 := Lib.hid (JV.below Gb1.out l)
    have Gc2 := Lib.hid (JV.below Gc1.out l)
    clear l
    go_wp2_with fail
    refine (H3.out _ _ _ Ga2.out Gc2.out (HT.out _ R2.out)).mono ?_
    rintro e v3 ⟨rfl, l⟩
    have R3 := Lib.hid (R2.out.trans (l.mono R2.out.size))
    have Ga3 := Lib.hid (JV.below Ga2.out l)
    have Gb3 := Lib.hid (JV.below Gb2.out l)
    have Gc3 := Lib.hid (JV.below Gc2.out l)
    clear l
    go_wp2_with fail
    refine (H4.out _ _ _ Gb3.out Ga3.out (HT.out _ R3.out)).mono ?_
    rintro e v4 ⟨rfl, l⟩
    have R4 := Lib.hid (R3.out.trans (l.mono R3.out.size))
    clear l
    obtain ⟨ka0, ka1, ka2, ka3, ka4, ka5, kb0, kb1, kb2, kb3, kb4, kb5, kc0, kc1, kc2, kc3, kc4, kc5⟩ := KS.out _ R4.out
    go_wp2_with fail
    refine (Ma.out _ R4.out).mono ?_
    rintro e w4 ⟨rfl, l⟩
    have P4 := Lib.hid (R4.out.trans (l.mono R4.out.size))
    clear l
    clear ka0 ka1 ka2 ka3 ka4 ka5 kb0 kb1 kb2 kb3 kb4 kb5 kc0 kc1 kc2 kc3 kc4 kc5
    obtain ⟨ka0, ka1, ka2, ka3, ka4, ka5, kb0, kb1, kb2, kb3, kb4, kb5, kc0, kc1, kc2, kc3, kc4, kc5⟩ := KS.out _ P4.out
    go_wp2_with fail
    refine (Mb.out _ P4.out).mono ?_
    rintro e w5 ⟨rfl, l⟩
    have P5 := Lib.hid (P4.out.trans (l.mono P4.out.size))
    clear l
    clear ka0 ka1 ka2 ka3 ka4 ka5 kb0 kb1 kb2 kb3 kb4 kb5 kc0 kc1 kc2 kc3 kc4 kc5
    obtain ⟨ka0, ka1, ka2, ka3, ka4, ka5, kb0, kb1, kb2, kb3, kb4, kb5, kc0, kc1, kc2, kc3, kc4, kc5⟩ := KS.out _ P5.out
    go_wp2_with fail
    refine (Mc.out _ P5.out).mono ?_
    rintro e w6 ⟨rfl, l⟩
    have P6 := Lib.hid (P5.out.trans (l.mono P5.out.size))
    clear l
    clear ka0 ka1 ka2 ka3 ka4 ka5 kb0 kb1 kb2 kb3 kb4 kb5 kc0 kc1 kc2 kc3 kc4 kc5
    obtain ⟨ka0, ka1, ka2, ka3, ka4, ka5, kb0, kb1, kb2, kb3, kb4, kb5, kc0, kc1, kc2, kc3, kc4, kc5⟩ := KS.out _ P6.out
    go_wp2_with fail
    refine (awake_any _ (HT.out _ P6.out)).mono ?_
    rintro e wz ⟨rfl, l⟩
    have Pz := Lib.hid ((PW.out _ P6.out).trans (l.mono (PW.out _ P6.out).size))
    clear l
    go_wp2_with fail
    go_ret
    exact ⟨rfl, Pz.out⟩
end Go.Proofs.YtpmhefdalhohdaaDoor
