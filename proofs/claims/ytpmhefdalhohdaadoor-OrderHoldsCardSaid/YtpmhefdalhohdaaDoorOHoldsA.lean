/- OrderHolds: keys alike. -/
import Derived.Test.YtpmhefdalhohdaaDoorODepth
namespace Go.Proofs.YtpmhefdalhohdaaDoor
open Go.RowKit
set_option linter.unusedVariables false

set_option maxHeartbeats 8000000 in
set_option maxRecDepth 100000 in
theorem holds_eq (ta tb : VT) (a0 a1 a2 a3 a4 a5 b0 b1 b2 b3 b4 b5 : Value) (w : World) (ia : InV w ta #[a0, a1, a2, a3, a4, a5]) (ib : InV w tb #[b0, b1, b2, b3, b4, b5]) (hT : TabU w) (la : lightB ta = true) (lb : lightB tb = true) (ha : mayV ta 0 = 0) (hb : mayV tb 0 = 0) (sk sl : ByteArray)
    (KA : ∀ (W : World) (x : Value), JV W ta x → TabU W → Calls Tryd.prog 17 #[x] W fun e w' => ∃ v, e = .returned (.tuple #[v, .int .i64 0]) ∧ (∀ W', Below w'.heap.size w' W' → (convert 35 9 v).run Tryd.prog W' = .ok (.string sk) W') ∧ Below W.heap.size W w') (KB : ∀ (W : World) (x : Value), JV W tb x → TabU W → Calls Tryd.prog 17 #[x] W fun e w' => ∃ v, e = .returned (.tuple #[v, .int .i64 0]) ∧ (∀ W', Below w'.heap.size w' W' → (convert 35 9 v).run Tryd.prog W' = .ok (.string sl) W') ∧ Below W.heap.size W w')
    (KC : ∀ (W : World) (x y : Value), JV W ta x → JV W tb y → TabU W → Calls Tryd.prog 12 #[x, y] W fun e w' => e = .returned (.tuple #[.int .i64 (0), .int .i64 0]) ∧ Below W.heap.size W w')
    (KS' : ∀ (W : World) (x y : Value), JV W ta x → JV W tb y → TabU W → Calls Tryd.prog 23 #[x, y] W fun e w' => e = .returned (.bool true) ∧ Below W.heap.size W w')
    (hs1 : sk.size ≤ 1000000) (hs2 : sl.size ≤ 1000000) (hl : Op.bytesLess sk.toList sl.toList = false) (hl2 : Op.bytesLess sl.toList sk.toList = false) (he : (sk.toList == sl.toList) = true) :
    Calls Tryd.prog 6 #[.agg #[a0, a1, a2, a3, a4, a5], .agg #[b0, b1, b2, b3, b4, b5]] w fun e w' => e = .returned (.bool true) ∧ Below w.heap.size w w' := by
  have H1 := Lib.hid KA
  have H2 := Lib.hid KB
  have H3 := Lib.hid KC
  have H4 := Lib.hid KS'
  have HS := Lib.hid (And.intro hs1 hs2)
  have HE := Lib.hid (And.intro hl (And.intro hl2 he))
  clear KA KB KC KS' hs1 hs2 hl hl2 he
  obtain ⟨W0, hW⟩ : ∃ W0, W0 = ((w.alloc (.cells #[a0, a1, a2, a3, a4, a5] 25)).alloc (.cells #[b0, b1, b2, b3, b4, b5] 25)) := ⟨_, rfl⟩
  have hz : W0.heap.size = w.heap.size + 2 := by rw [hW]; simp
  have PW := Lib.hid (show ∀ W : World, Below W0.heap.size W0 W → Below w.heap.size w W from fun W hbel => by
    have l : Below w.heap.size w W0 := by rw [hW]; exact ((Below.refl _ _).alloc (Nat.le_refl _) _).alloc (by simp; try omega) _
    exact l.trans (hbel.mono (by omega)))
  have KS := Lib.hid (show ∀ W : World, Below W0.heap.size W0 W → W.cell? ⟨w.heap.size, 0, none⟩ = some a0 ∧ W.cell? ⟨w.heap.size, 1, none⟩ = some a1 ∧ W.cell? ⟨w.heap.size, 2, none⟩ = some a2 ∧ W.cell? ⟨w.heap.size, 3, none⟩ = some a3 ∧ W.cell? ⟨w.heap.size, 4, none⟩ = some a4 ∧ W.cell? ⟨w.heap.size, 5, none⟩ = some a5 ∧ W.cell? ⟨w.heap.size + 1, 0, none⟩ = some b0 ∧ W.cell? ⟨w.heap.size + 1, 1, none⟩ = some b1 ∧ W.cell? ⟨w.heap.size + 1, 2, none⟩ = some b2 ∧ W.cell? ⟨w.heap.size + 1, 3, none⟩ = some b3 ∧ W.cell? ⟨w.heap.size + 1, 4, none⟩ = some b4 ∧ W.cell? ⟨w.heap.size + 1, 5, none⟩ = some b5 from fun W hbel => by
    have l2 := hbel
    rw [hW] at l2
    have l1 : Below (w.alloc (.cells #[a0, a1, a2, a3, a4, a5] 25)).heap.size (w.alloc (.cells #[a0, a1, a2, a3, a4, a5] 25)) W := ((Below.refl (w.alloc (.cells #[a0, a1, a2, a3, a4, a5] 25)).heap.size (w.alloc (.cells #[a0, a1, a2, a3, a4, a5] 25))).alloc (Nat.le_refl _) (.cells #[b0, b1, b2, b3, b4, b5] 25)).trans (l2.mono (by simp))
    have Ba := boxed (w := w) (W1 := (w.alloc (.cells #[a0, a1, a2, a3, a4, a5] 25))) rfl (wr := W) l1
    have Bb := boxed (w := (w.alloc (.cells #[a0, a1, a2, a3, a4, a5] 25))) (W1 := ((w.alloc (.cells #[a0, a1, a2, a3, a4, a5] 25)).alloc (.cells #[b0, b1, b2, b3, b4, b5] 25))) rfl (wr := W) l2
    simp only [World.size_alloc] at Bb
    exact ⟨Ba.1, Ba.2.1, Ba.2.2.1, Ba.2.2.2.1, Ba.2.2.2.2.1, Ba.2.2.2.2.2.1, Bb.1, Bb.2.1, Bb.2.2.1, Bb.2.2.2.1, Bb.2.2.2.2.1, Bb.2.2.2.2.2.1⟩)
  have LD := Lib.hid (show ∀ W : World, Below W0.heap.size W0 W → W.rangeAt (w.heap.size) 0 [a0, a1, a2, a3, a4, a5] ∧ W.rangeAt (w.heap.size + 1) 0 [b0, b1, b2, b3, b4, b5] from fun W hbel => by
    obtain ⟨a0, a1, a2, a3, a4, a5, b0, b1, b2, b3, b4, b5⟩ := KS.out W hbel
    exact ⟨range6 a0 a1 a2 a3 a4 a5, range6 b0 b1 b2 b3 b4 b5⟩)
  have HT := Lib.hid (show ∀ W : World, Below W0.heap.size W0 W → TabU W from fun W hbel => hT.below (PW.out W hbel))
  have La := Lib.hid (show ∀ W : World, Below W0.heap.size W0 W → Calls Tryd.prog 11 #[.agg #[a0, a1, a2, a3, a4, a5]] W fun e w' => e = .returned (.bool true) ∧ Below W.heap.size W w' from fun W hbel => by rw [← la]; exact light_any ta _ W (ia.keep (KeepC.below (PW.out W hbel))))
  have Lb := Lib.hid (show ∀ W : World, Below W0.heap.size W0 W → Calls Tryd.prog 11 #[.agg #[b0, b1, b2, b3, b4, b5]] W fun e w' => e = .returned (.bool true) ∧ Below W.heap.size W w' from fun W hbel => by rw [← lb]; exact light_any tb _ W (ib.keep (KeepC.below (PW.out W hbel))))
  have Ma := Lib.hid (show ∀ W : World, Below W0.heap.size W0 W → Calls Tryd.prog 14 #[.agg #[a0, a1, a2, a3, a4, a5]] W fun e w' => e = .returned (.int .i64 0) ∧ Below W.heap.size W w' from fun W hbel => by have q := refMay_any ta _ W (light_ok la).1 (ia.keep (KeepC.below (PW.out W hbel))); rw [ha] at q; exact q)
  have Mb := Lib.hid (show ∀ W : World, Below W0.heap.size W0 W → Calls Tryd.prog 14 #[.agg #[b0, b1, b2, b3, b4, b5]] W fun e w' => e = .returned (.int .i64 0) ∧ Below W.heap.size W w' from fun W hbel => by have q := refMay_any tb _ W (light_ok lb).1 (ib.keep (KeepC.below (PW.out W hbel))); rw [hb] at q; exact q)
  have Ta := Lib.hid (show ∀ W : World, Below W0.heap.size W0 W → Calls Tryd.prog 13 #[.agg #[a0, a1, a2, a3, a4, a5]] W (ToldP ta W) from fun W hbel => told_any ta _ W (ia.keep (KeepC.below (PW.out W hbel))) (light_ok la).1)
  have Tb := Lib.hid (show ∀ W : World, Below W0.heap.size W0 W → Calls Tryd.prog 13 #[.agg #[b0, b1, b2, b3, b4, b5]] W (ToldP tb W) from fun W hbel => told_any tb _ W (ib.keep (KeepC.below (PW.out W hbel))) (light_ok lb).1)
  have HW := Lib.hid hW
  clear hW hz hT ia ib la lb ha hb
  go_enter Tryd.func6, Tryd.ntmps6
  go_wp2_with fail
  rw [← HW.out]
  have P0 := Lib.hid (Below.refl W0.heap.size W0)
  refine (La.out _ P0.out).mono ?_
  rintro e w1 ⟨rfl, l⟩
  have P1 := Lib.hid (P0.out.trans (l.mono P0.out.size))
  clear l
  obtain ⟨ka0, ka1, ka2, ka3, ka4, ka5, kb0, kb1, kb2, kb3, kb4, kb5⟩ := KS.out _ P1.out
  go_wp2_with fail
  clear ka0 ka1 ka2 ka3 ka4 ka5 kb0 kb1 kb2 kb3 kb4 kb5
  refine (Lb.out _ P1.out).mono ?_
  rintro e w2 ⟨rfl, l⟩
  have P2 := Lib.hid (P1.out.trans (l.mono P1.out.size))
  clear l
  obtain ⟨ka0, ka1, ka2, ka3, ka4, ka5, kb0, kb1, kb2, kb3, kb4, kb5⟩ := KS.out _ P2.out
  go_wp2_with fail
  clear ka0 ka1 ka2 ka3 ka4 ka5 kb0 kb1 kb2 kb3 kb4 kb5
  refine (Ma.out _ P2.out).mono ?_
  rintro e w3 ⟨rfl, l⟩
  have P3 := Lib.hid (P2.out.trans (l.mono P2.out.size))
  clear l
  obtain ⟨ka0, ka1, ka2, ka3, ka4, ka5, kb0, kb1, kb2, kb3, kb4, kb5⟩ := KS.out _ P3.out
  go_wp2_with fail
  clear ka0 ka1 ka2 ka3 ka4 ka5 kb0 kb1 kb2 kb3 kb4 kb5
  refine (Mb.out _ P3.out).mono ?_
  rintro e w4 ⟨rfl, l⟩
  have P4 := Lib.hid (P3.out.trans (l.mono P3.out.size))
  clear l
  obtain ⟨ka0, ka1, ka2, ka3, ka4, ka5, kb0, kb1, kb2, kb3, kb4, kb5⟩ := KS.out _ P4.out
  go_wp2_with fail
  have PD := Lib.hid (below_drew P4.out)
  clear ka0 ka1 ka2 ka3 ka4 ka5 kb0 kb1 kb2 kb3 kb4 kb5
  refine wp_region_held_drew (S := fun W => Below W0.heap.size W0 W) (by kernel_rfl) (PD.out) (fun hHeld => ?_)
  refine wpAnyH_take (i := 0) (oi := { dst := some 44, op := Op.load 25 (Operand.tmp 2), type := 25, pos := "outright.go:15", after := #[], guard := none }) (v := .agg #[a0, a1, a2, a3, a4, a5]) rfl (by kernel_rfl) (by kernel_rfl) (by kernel_rfl) (fun _ _ _ h => h) (yieldsIf_load_mid (by kernel_rfl) 25 (.tmp 2) rfl (w.heap.size) (0) (by kernel_rfl) [a0, a1, a2, a3, a4, a5] _ (fun W hW => (LD.out W hW).1) Tryd.underlying25 rfl (by kernel_rfl)) (by with_reducible assumption) ?_
  simp only [Act.put]
  refine wpAnyH_take (i := 2) (oi := { dst := some 46, op := Op.load 25 (Operand.tmp 3), type := 25, pos := "outright.go:15", after := #[], guard := none }) (v := .agg #[b0, b1, b2, b3, b4, b5]) rfl (by kernel_rfl) (by kernel_rfl) (by kernel_rfl) (fun _ _ _ h => h) (yieldsIf_load_mid (by kernel_rfl) 25 (.tmp 3) rfl (w.heap.size + 1) (0) (by kernel_rfl) [b0, b1, b2, b3, b4, b5] _ (fun W hW => (LD.out W hW).2) Tryd.underlying25 rfl (by kernel_rfl)) (by with_reducible assumption) ?_
  simp only [Act.put]
  refine wpAnyH_ready (rs := [1]) (by kernel_rfl) (by simp) ?_
  refine AllReadyH.cons (o := { dst := some 45, op := Op.call { callee := Callee.value (Operand.func 13), args := #[Operand.tmp 44], argTypes := #[25] }, type := 20, pos := "outright.go:15", after := #[{ on := 0, ground := Ground.data }], guard := none }) rfl (fun K hK => ?_) AllReadyH.nil
  go_simp
  go_wp2_with (go_at_call 13; (with_reducible refine (Ta.out _ PD.out).mono ?_); rintro e wa ⟨xa, rfl, hx, l⟩; have hSa := PD.out.trans (l.mono PD.out.size); have Pa := Lib.hid hSa; have Ja := Lib.hid (jv_self hx); clear hx l)
  refine hK.out _ _ (by with_reducible assumption) (fun hHeld => ?_)
  clear hK K
  refine wpAnyH_ready (rs := [3]) (by kernel_rfl) (by simp) ?_
  refine AllReadyH.cons (o := { dst := some 47, op := Op.call { callee := Callee.value (Operand.func 13), args := #[Operand.tmp 46], argTypes := #[25] }, type := 20, pos := "outright.go:15", after := #[{ on := 2, ground := Ground.data }, { on := 1, ground := Ground.chain }], guard := none }) rfl (fun K hK => ?_) AllReadyH.nil
  go_simp
  go_wp2_with (go_at_call 13; (with_reducible refine (Tb.out _ Pa.out).mono ?_); rintro e wb ⟨xb, rfl, hx, l⟩; have hSb := Pa.out.trans (l.mono Pa.out.size); have Pb := Lib.hid hSb; have Jb := Lib.hid (jv_self hx); have Jab := Lib.hid (JV.below Ja.out l); clear hx l)
  refine hK.out _ _ (by with_reducible assumption) (fun hHeld => ?_)
  clear hK K
  refine wpAnyH_ready (rs := [4]) (by kernel_rfl) (by simp) ?_
  refine AllReadyH.cons (o := { dst := some 5, op := Op.assign (Operand.tmp 45), type := 20, pos := "outright.go:15", after := #[{ on := 1, ground := Ground.data }, { on := 3, ground := Ground.chain }, { on := 0, ground := Ground.phase }, { on := 1, ground := Ground.phase }, { on := 2, ground := Ground.textOnly Departure.lateStores }, { on := 3, ground := Ground.textOnly Departure.lateStoresUnsure }], guard := none }) rfl (fun K hK => ?_) AllReadyH.nil
  go_simp
  refine hK.out _ _ (by with_reducible assumption) (fun hHeld => ?_)
  clear hK K
  refine wpAnyH_ready (rs := [5]) (by kernel_rfl) (by simp) ?_
  refine AllReadyH.cons (o := { dst := some 6, op := Op.assign (Operand.tmp 47), type := 20, pos := "outright.go:15", after := #[{ on := 3, ground := Ground.data }, { on := 4, ground := Ground.chain }, { on := 0, ground := Ground.phase }, { on := 1, ground := Ground.phase }, { on := 2, ground := Ground.phase }, { on := 3, ground := Ground.phase }, { on := 4, ground := Ground.phase }], guard := none }) rfl (fun K hK => ?_) AllReadyH.nil
  go_simp
  refine hK.out _ _ (by with_reducible assumption) (fun hHeld => ?_)
  clear hK K
  refine wpAnyH_done (by kernel_rfl) ?_ _
  clear hHeld hSa hSb
  go_wp2_with fail
  refine (H1.out _ _ Jab.out (HT.out _ Pb.out)).mono ?_
  rintro e u1 ⟨v1, rfl, c1, l⟩
  have R1 := Lib.hid (Pb.out.trans (l.mono Pb.out.size))
  have C1 := Lib.hid c1
  have Ga1 := Lib.hid (JV.below Jab.out l)
  have Gb1 := Lib.hid (JV.below Jb.out l)
  clear l c1
  go_wp2_with fail
  refine (H2.out _ _ Gb1.out (HT.out _ R1.out)).mono ?_
  rintro e u2 ⟨v2, rfl, c2, l⟩
  have R2 := Lib.hid (R1.out.trans (l.mono R1.out.size))
  have D2 := Lib.hid l
  have C2 := Lib.hid c2
  have Ga2 := Lib.hid (JV.below Ga1.out l)
  have Gb2 := Lib.hid (JV.below Gb1.out l)
  clear l c2
  go_wp2_with fail
  refine (H3.out _ _ _ Ga2.out Gb2.out (HT.out _ R2.out)).mono ?_
  rintro e u3 ⟨rfl, l⟩
  have R3 := Lib.hid (R2.out.trans (l.mono R2.out.size))
  have D3 := Lib.hid l
  have Ga3 := Lib.hid (JV.below Ga2.out l)
  have Gb3 := Lib.hid (JV.below Gb2.out l)
  clear l
  have CV := Lib.hid (show ∀ W : World, Below u3.heap.size u3 W → (convert 35 9 v1).run Tryd.prog W = .ok (.string sk) W ∧ (convert 35 9 v2).run Tryd.prog W = .ok (.string sl) W from fun W hb =>
    have d := D3.out.trans (hb.mono D3.out.size)
    ⟨C1.out W (D2.out.trans (d.mono D2.out.size)), C2.out W d⟩)
  have D1 := Lib.hid (below_drew (Below.refl u3.heap.size u3))
  go_wp2_with fail
  go_region_held_law (fun W => (convert 35 9 v1).run Tryd.prog W = .ok (.string sk) W ∧ (convert 35 9 v2).run Tryd.prog W = .ok (.string sl) W)
    (exact CV.out _ D1.out)
    (fail)
  have R4 := Lib.hid (R3.out.trans (D1.out.mono R3.out.size))
  have Ga4 := Lib.hid (JV.below Ga3.out D1.out)
  have Gb4 := Lib.hid (JV.below Gb3.out D1.out)
  obtain ⟨q1, q2, q3⟩ := HE.out
  obtain ⟨hs1, hs2⟩ := HS.out
  go_wp2_with fail
  refine (H4.out _ _ _ Ga4.out Gb4.out (HT.out _ R4.out)).mono ?_
  rintro e u5 ⟨rfl, l⟩
  have R5 := Lib.hid (R4.out.trans (l.mono R4.out.size))
  clear l
  go_wp2_with fail
  refine (awake_any _ (HT.out _ R5.out)).mono ?_
  rintro e wz ⟨rfl, l⟩
  have Pz := Lib.hid (PW.out _ (R5.out.trans (l.mono R5.out.size)))
  clear l
  go_wp2_with fail
  go_ret
  exact ⟨rfl, Pz.out⟩
set_option maxHeartbeats 8000000 in
set_option maxRecDepth 100000 in
theorem holds_ltg (ta tb : VT) (a0 a1 a2 a3 a4 a5 b0 b1 b2 b3 b4 b5 : Value) (w : World) (ia : InV w ta #[a0, a1, a2, a3, a4, a5]) (ib : InV w tb #[b0, b1, b2, b3, b4, b5]) (hT : TabU w) (la : lightB ta = true) (lb : lightB tb = true) (ha : mayV ta 0 = 0) (hb : mayV tb 0 = 0) (sk sl : ByteArray)
    (KA : ∀ (W : World) (x : Value), JV W ta x → TabU W → Calls Tryd.prog 17 #[x] W fun e w' => ∃ v, e = .returned (.tuple #[v, .int .i64 0]) ∧ (∀ W', Below w'.heap.size w' W' → (convert 35 9 v).run Tryd.prog W' = .ok (.string sk) W') ∧ Below W.heap.size W w') (KB : ∀ (W : World) (x : Value), JV W tb x → TabU W → Calls Tryd.prog 17 #[x] W fun e w' => ∃ v, e = .returned (.tuple #[v, .int .i64 0]) ∧ (∀ W', Below w'.heap.size w' W' → (convert 35 9 v).run Tryd.prog W' = .ok (.string sl) W') ∧ Below W.heap.size W w')
    (KC : ∀ (W : World) (x y : Value), JV W ta x → JV W tb y → TabU W → Calls Tryd.prog 12 #[x, y] W fun e w' => e = .returned (.tuple #[.int .i64 (-1), .int .i64 0]) ∧ Below W.heap.size W w')
    (KS' : ∀ (W : World) (x y : Value), JV W ta x → JV W tb y → TabU W → Calls Tryd.prog 23 #[x, y] W fun e w' => e = .returned (.bool false) ∧ Below W.heap.size W w')
    (hs1 : sk.size ≤ 1000000) (hs2 : sl.size ≤ 1000000) (hl : Op.bytesLess sk.toList sl.toList = true) (hl2 : Op.bytesLess sl.toList sk.toList = false) (he : (sk.toList == sl.toList) = false) (hz : sl.size < sk.size) :
    Calls Tryd.prog 6 #[.agg #[a0, a1, a2, a3, a4, a5], .agg #[b0, b1, b2, b3, b4, b5]] w fun e w' => e = .returned (.bool true) ∧ Below w.heap.size w w' := by
  have H1 := Lib.hid KA
  have H2 := Lib.hid KB
  have H3 := Lib.hid KC
  have H4 := Lib.hid KS'
  have HS := Lib.hid (And.intro hs1 hs2)
  have HE := Lib.hid (And.intro hl (And.intro hl2 he))
  have HZ := Lib.hid hz
  clear KA KB KC KS' hs1 hs2 hl hl2 he hz
  obtain ⟨W0, hW⟩ : ∃ W0, W0 = ((w.alloc (.cells #[a0, a1, a2, a3, a4, a5] 25)).alloc (.cells #[b0, b1, b2, b3, b4, b5] 25)) := ⟨_, rfl⟩
  have hz : W0.heap.size = w.heap.size + 2 := by rw [hW]; simp
  have PW := Lib.hid (show ∀ W : World, Below W0.heap.size W0 W → Below w.heap.size w W from fun W hbel => by
    have l : Below w.heap.size w W0 := by rw [hW]; exact ((Below.refl _ _).alloc (Nat.le_refl _) _).alloc (by simp; try omega) _
    exact l.trans (hbel.mono (by omega)))
  have KS := Lib.hid (show ∀ W : World, Below W0.heap.size W0 W → W.cell? ⟨w.heap.size, 0, none⟩ = some a0 ∧ W.cell? ⟨w.heap.size, 1, none⟩ = some a1 ∧ W.cell? ⟨w.heap.size, 2, none⟩ = some a2 ∧ W.cell? ⟨w.heap.size, 3, none⟩ = some a3 ∧ W.cell? ⟨w.heap.size, 4, none⟩ = some a4 ∧ W.cell? ⟨w.heap.size, 5, none⟩ = some a5 ∧ W.cell? ⟨w.heap.size + 1, 0, none⟩ = some b0 ∧ W.cell? ⟨w.heap.size + 1, 1, none⟩ = some b1 ∧ W.cell? ⟨w.heap.size + 1, 2, none⟩ = some b2 ∧ W.cell? ⟨w.heap.size + 1, 3, none⟩ = some b3 ∧ W.cell? ⟨w.heap.size + 1, 4, none⟩ = some b4 ∧ W.cell? ⟨w.heap.size + 1, 5, none⟩ = some b5 from fun W hbel => by
    have l2 := hbel
    rw [hW] at l2
    have l1 : Below (w.alloc (.cells #[a0, a1, a2, a3, a4, a5] 25)).heap.size (w.alloc (.cells #[a0, a1, a2, a3, a4, a5] 25)) W := ((Below.refl (w.alloc (.cells #[a0, a1, a2, a3, a4, a5] 25)).heap.size (w.alloc (.cells #[a0, a1, a2, a3, a4, a5] 25))).alloc (Nat.le_refl _) (.cells #[b0, b1, b2, b3, b4, b5] 25)).trans (l2.mono (by simp))
    have Ba := boxed (w := w) (W1 := (w.alloc (.cells #[a0, a1, a2, a3, a4, a5] 25))) rfl (wr := W) l1
    have Bb := boxed (w := (w.alloc (.cells #[a0, a1, a2, a3, a4, a5] 25))) (W1 := ((w.alloc (.cells #[a0, a1, a2, a3, a4, a5] 25)).alloc (.cells #[b0, b1, b2, b3, b4, b5] 25))) rfl (wr := W) l2
    simp only [World.size_alloc] at Bb
    exact ⟨Ba.1, Ba.2.1, Ba.2.2.1, Ba.2.2.2.1, Ba.2.2.2.2.1, Ba.2.2.2.2.2.1, Bb.1, Bb.2.1, Bb.2.2.1, Bb.2.2.2.1, Bb.2.2.2.2.1, Bb.2.2.2.2.2.1⟩)
  have LD := Lib.hid (show ∀ W : World, Below W0.heap.size W0 W → W.rangeAt (w.heap.size) 0 [a0, a1, a2, a3, a4, a5] ∧ W.rangeAt (w.heap.size + 1) 0 [b0, b1, b2, b3, b4, b5] from fun W hbel => by
    obtain ⟨a0, a1, a2, a3, a4, a5, b0, b1, b2, b3, b4, b5⟩ := KS.out W hbel
    exact ⟨range6 a0 a1 a2 a3 a4 a5, range6 b0 b1 b2 b3 b4 b5⟩)
  have HT := Lib.hid (show ∀ W : World, Below W0.heap.size W0 W → TabU W from fun W hbel => hT.below (PW.out W hbel))
  have La := Lib.hid (show ∀ W : World, Below W0.heap.size W0 W → Calls Tryd.prog 11 #[.agg #[a0, a1, a2, a3, a4, a5]] W fun e w' => e = .returned (.bool true) ∧ Below W.heap.size W w' from fun W hbel => by rw [← la]; exact light_any ta _ W (ia.keep (KeepC.below (PW.out W hbel))))
  have Lb := Lib.hid (show ∀ W : World, Below W0.heap.size W0 W → Calls Tryd.prog 11 #[.agg #[b0, b1, b2, b3, b4, b5]] W fun e w' => e = .returned (.bool true) ∧ Below W.heap.size W w' from fun W hbel => by rw [← lb]; exact light_any tb _ W (ib.keep (KeepC.below (PW.out W hbel))))
  have Ma := Lib.hid (show ∀ W : World, Below W0.heap.size W0 W → Calls Tryd.prog 14 #[.agg #[a0, a1, a2, a3, a4, a5]] W fun e w' => e = .returned (.int .i64 0) ∧ Below W.heap.size W w' from fun W hbel => by have q := refMay_any ta _ W (light_ok la).1 (ia.keep (KeepC.below (PW.out W hbel))); rw [ha] at q; exact q)
  have Mb := Lib.hid (show ∀ W : World, Below W0.heap.size W0 W → Calls Tryd.prog 14 #[.agg #[b0, b1, b2, b3, b4, b5]] W fun e w' => e = .returned (.int .i64 0) ∧ Below W.heap.size W w' from fun W hbel => by have q := refMay_any tb _ W (light_ok lb).1 (ib.keep (KeepC.below (PW.out W hbel))); rw [hb] at q; exact q)
  have Ta := Lib.hid (show ∀ W : World, Below W0.heap.size W0 W → Calls Tryd.prog 13 #[.agg #[a0, a1, a2, a3, a4, a5]] W (ToldP ta W) from fun W hbel => told_any ta _ W (ia.keep (KeepC.below (PW.out W hbel))) (light_ok la).1)
  have Tb := Lib.hid (show ∀ W : World, Below W0.heap.size W0 W → Calls Tryd.prog 13 #[.agg #[b0, b1, b2, b3, b4, b5]] W (ToldP tb W) from fun W hbel => told_any tb _ W (ib.keep (KeepC.below (PW.out W hbel))) (light_ok lb).1)
  have HW := Lib.hid hW
  clear hW hz hT ia ib la lb ha hb
  go_enter Tryd.func6, Tryd.ntmps6
  go_wp2_with fail
  rw [← HW.out]
  have P0 := Lib.hid (Below.refl W0.heap.size W0)
  refine (La.out _ P0.out).mono ?_
  rintro e w1 ⟨rfl, l⟩
  have P1 := Lib.hid (P0.out.trans (l.mono P0.out.size))
  clear l
  obtain ⟨ka0, ka1, ka2, ka3, ka4, ka5, kb0, kb1, kb2, kb3, kb4, kb5⟩ := KS.out _ P1.out
  go_wp2_with fail
  clear ka0 ka1 ka2 ka3 ka4 ka5 kb0 kb1 kb2 kb3 kb4 kb5
  refine (Lb.out _ P1.out).mono ?_
  rintro e w2 ⟨rfl, l⟩
  have P2 := Lib.hid (P1.out.trans (l.mono P1.out.size))
  clear l
  obtain ⟨ka0, ka1, ka2, ka3, ka4, ka5, kb0, kb1, kb2, kb3, kb4, kb5⟩ := KS.out _ P2.out
  go_wp2_with fail
  clear ka0 ka1 ka2 ka3 ka4 ka5 kb0 kb1 kb2 kb3 kb4 kb5
  refine (Ma.out _ P2.out).mono ?_
  rintro e w3 ⟨rfl, l⟩
  have P3 := Lib.hid (P2.out.trans (l.mono P2.out.size))
  clear l
  obtain ⟨ka0, ka1, ka2, ka3, ka4, ka5, kb0, kb1, kb2, kb3, kb4, kb5⟩ := KS.out _ P3.out
  go_wp2_with fail
  clear ka0 ka1 ka2 ka3 ka4 ka5 kb0 kb1 kb2 kb3 kb4 kb5
  refine (Mb.out _ P3.out).mono ?_
  rintro e w4 ⟨rfl, l⟩
  have P4 := Lib.hid (P3.out.trans (l.mono P3.out.size))
  clear l
  obtain ⟨ka0, ka1, ka2, ka3, ka4, ka5, kb0, kb1, kb2, kb3, kb4, kb5⟩ := KS.out _ P4.out
  go_wp2_with fail
  have PD := Lib.hid (below_drew P4.out)
  clear ka0 ka1 ka2 ka3 ka4 ka5 kb0 kb1 kb2 kb3 kb4 kb5
  refine wp_region_held_drew (S := fun W => Below W0.heap.size W0 W) (by kernel_rfl) (PD.out) (fun hHeld => ?_)
  refine wpAnyH_take (i := 0) (oi := { dst := some 44, op := Op.load 25 (Operand.tmp 2), type := 25, pos := "outright.go:15", after := #[], guard := none }) (v := .agg #[a0, a1, a2, a3, a4, a5]) rfl (by kernel_rfl) (by kernel_rfl) (by kernel_rfl) (fun _ _ _ h => h) (yieldsIf_load_mid (by kernel_rfl) 25 (.tmp 2) rfl (w.heap.size) (0) (by kernel_rfl) [a0, a1, a2, a3, a4, a5] _ (fun W hW => (LD.out W hW).1) Tryd.underlying25 rfl (by kernel_rfl)) (by with_reducible assumption) ?_
  simp only [Act.put]
  refine wpAnyH_take (i := 2) (oi := { dst := some 46, op := Op.load 25 (Operand.tmp 3), type := 25, pos := "outright.go:15", after := #[], guard := none }) (v := .agg #[b0, b1, b2, b3, b4, b5]) rfl (by kernel_rfl) (by kernel_rfl) (by kernel_rfl) (fun _ _ _ h => h) (yieldsIf_load_mid (by kernel_rfl) 25 (.tmp 3) rfl (w.heap.size + 1) (0) (by kernel_rfl) [b0, b1, b2, b3, b4, b5] _ (fun W hW => (LD.out W hW).2) Tryd.underlying25 rfl (by kernel_rfl)) (by with_reducible assumption) ?_
  simp only [Act.put]
  refine wpAnyH_ready (rs := [1]) (by kernel_rfl) (by simp) ?_
  refine AllReadyH.cons (o := { dst := some 45, op := Op.call { callee := Callee.value (Operand.func 13), args := #[Operand.tmp 44], argTypes := #[25] }, type := 20, pos := "outright.go:15", after := #[{ on := 0, ground := Ground.data }], guard := none }) rfl (fun K hK => ?_) AllReadyH.nil
  go_simp
  go_wp2_with (go_at_call 13; (with_reducible refine (Ta.out _ PD.out).mono ?_); rintro e wa ⟨xa, rfl, hx, l⟩; have hSa := PD.out.trans (l.mono PD.out.size); have Pa := Lib.hid hSa; have Ja := Lib.hid (jv_self hx); clear hx l)
  refine hK.out _ _ (by with_reducible assumption) (fun hHeld => ?_)
  clear hK K
  refine wpAnyH_ready (rs := [3]) (by kernel_rfl) (by simp) ?_
  refine AllReadyH.cons (o := { dst := some 47, op := Op.call { callee := Callee.value (Operand.func 13), args := #[Operand.tmp 46], argTypes := #[25] }, type := 20, pos := "outright.go:15", after := #[{ on := 2, ground := Ground.data }, { on := 1, ground := Ground.chain }], guard := none }) rfl (fun K hK => ?_) AllReadyH.nil
  go_simp
  go_wp2_with (go_at_call 13; (with_reducible refine (Tb.out _ Pa.out).mono ?_); rintro e wb ⟨xb, rfl, hx, l⟩; have hSb := Pa.out.trans (l.mono Pa.out.size); have Pb := Lib.hid hSb; have Jb := Lib.hid (jv_self hx); have Jab := Lib.hid (JV.below Ja.out l); clear hx l)
  refine hK.out _ _ (by with_reducible assumption) (fun hHeld => ?_)
  clear hK K
  refine wpAnyH_ready (rs := [4]) (by kernel_rfl) (by simp) ?_
  refine AllReadyH.cons (o := { dst := some 5, op := Op.assign (Operand.tmp 45), type := 20, pos := "outright.go:15", after := #[{ on := 1, ground := Ground.data }, { on := 3, ground := Ground.chain }, { on := 0, ground := Ground.phase }, { on := 1, ground := Ground.phase }, { on := 2, ground := Ground.textOnly Departure.lateStores }, { on := 3, ground := Ground.textOnly Departure.lateStoresUnsure }], guard := none }) rfl (fun K hK => ?_) AllReadyH.nil
  go_simp
  refine hK.out _ _ (by with_reducible assumption) (fun hHeld => ?_)
  clear hK K
  refine wpAnyH_ready (rs := [5]) (by kernel_rfl) (by simp) ?_
  refine AllReadyH.cons (o := { dst := some 6, op := Op.assign (Operand.tmp 47), type := 20, pos := "outright.go:15", after := #[{ on := 3, ground := Ground.data }, { on := 4, ground := Ground.chain }, { on := 0, ground := Ground.phase }, { on := 1, ground := Ground.phase }, { on := 2, ground := Ground.phase }, { on := 3, ground := Ground.phase }, { on := 4, ground := Ground.phase }], guard := none }) rfl (fun K hK => ?_) AllReadyH.nil
  go_simp
  refine hK.out _ _ (by with_reducible assumption) (fun hHeld => ?_)
  clear hK K
  refine wpAnyH_done (by kernel_rfl) ?_ _
  clear hHeld hSa hSb
  go_wp2_with fail
  refine (H1.out _ _ Jab.out (HT.out _ Pb.out)).mono ?_
  rintro e u1 ⟨v1, rfl, c1, l⟩
  have R1 := Lib.hid (Pb.out.trans (l.mono Pb.out.size))
  have C1 := Lib.hid c1
  have Ga1 := Lib.hid (JV.below Jab.out l)
  have Gb1 := Lib.hid (JV.below Jb.out l)
  clear l c1
  go_wp2_with fail
  refine (H2.out _ _ Gb1.out (HT.out _ R1.out)).mono ?_
  rintro e u2 ⟨v2, rfl, c2, l⟩
  have R2 := Lib.hid (R1.out.trans (l.mono R1.out.size))
  have D2 := Lib.hid l
  have C2 := Lib.hid c2
  have Ga2 := Lib.hid (JV.below Ga1.out l)
  have Gb2 := Lib.hid (JV.below Gb1.out l)
  clear l c2
  go_wp2_with fail
  refine (H3.out _ _ _ Ga2.out Gb2.out (HT.out _ R2.out)).mono ?_
  rintro e u3 ⟨rfl, l⟩
  have R3 := Lib.hid (R2.out.trans (l.mono R2.out.size))
  have D3 := Lib.hid l
  have Ga3 := Lib.hid (JV.below Ga2.out l)
  have Gb3 := Lib.hid (JV.below Gb2.out l)
  clear l
  have CV := Lib.hid (show ∀ W : World, Below u3.heap.size u3 W → (convert 35 9 v1).run Tryd.prog W = .ok (.string sk) W ∧ (convert 35 9 v2).run Tryd.prog W = .ok (.string sl) W from fun W hb =>
    have d := D3.out.trans (hb.mono D3.out.size)
    ⟨C1.out W (D2.out.trans (d.mono D2.out.size)), C2.out W d⟩)
  have D1 := Lib.hid (below_drew (Below.refl u3.heap.size u3))
  go_wp2_with fail
  go_region_held_law (fun W => (convert 35 9 v1).run Tryd.prog W = .ok (.string sk) W ∧ (convert 35 9 v2).run Tryd.prog W = .ok (.string sl) W)
    (exact CV.out _ D1.out)
    (fail)
  have R4 := Lib.hid (R3.out.trans (D1.out.mono R3.out.size))
  have Ga4 := Lib.hid (JV.below Ga3.out D1.out)
  have Gb4 := Lib.hid (JV.below Gb3.out D1.out)
  obtain ⟨q1, q2, q3⟩ := HE.out
  obtain ⟨hs1, hs2⟩ := HS.out
  go_wp2_with fail
  refine (H4.out _ _ _ Ga4.out Gb4.out (HT.out _ R4.out)).mono ?_
  rintro e u5 ⟨rfl, l⟩
  have R5 := Lib.hid (R4.out.trans (l.mono R4.out.size))
  clear l
  have hz : (sl.size : Int) < (sk.size : Int) := by have := HZ.out; omega
  go_wp2_with fail
  refine (awake_any _ (HT.out _ R5.out)).mono ?_
  rintro e wz ⟨rfl, l⟩
  have Pz := Lib.hid (PW.out _ (R5.out.trans (l.mono R5.out.size)))
  clear l
  go_wp2_with fail
  go_ret
  exact ⟨rfl, Pz.out⟩
end Go.Proofs.YtpmhefdalhohdaaDoor
