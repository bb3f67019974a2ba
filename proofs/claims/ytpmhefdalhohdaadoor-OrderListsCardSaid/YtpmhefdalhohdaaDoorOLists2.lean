/- OrderLists: the walk where all may be. -/
import Derived.Test.YtpmhefdalhohdaaDoorOLists
namespace Go.Proofs.YtpmhefdalhohdaaDoor
open Go.RowKit
set_option linter.unusedVariables false

set_option maxHeartbeats 8000000 in
set_option maxRecDepth 100000 in
theorem lists_main (ta tb : VT) (a0 a1 a2 a3 a4 a5 b0 b1 b2 b3 b4 b5 : Value) (w : World) (ia : InV w ta #[a0, a1, a2, a3, a4, a5]) (ib : InV w tb #[b0, b1, b2, b3, b4, b5]) (hT : TabU w) (la : lightB ta = true) (lb : lightB tb = true) (ha : mayV ta 0 = 0) (hb : mayV tb 0 = 0) (pa pb : Int) (da : (depthV ta : Int) = pa) (db : (depthV tb : Int) = pb) (z0 : ¬ 30 < pa) (z : ¬ 30 < pb) (sk sl sm : ByteArray)
    (KA : ∀ (W : World) (x : Value), JV W ta x → TabU W → Calls Tryd.prog 17 #[x] W fun e w' => ∃ v, e = .returned (.tuple #[v, .int .i64 0]) ∧ (∀ W', Below w'.heap.size w' W' → (convert 35 9 v).run Tryd.prog W' = .ok (.string sk) W') ∧ Below W.heap.size W w') (KB : ∀ (W : World) (x : Value), JV W tb x → TabU W → Calls Tryd.prog 17 #[x] W fun e w' => ∃ v, e = .returned (.tuple #[v, .int .i64 0]) ∧ (∀ W', Below w'.heap.size w' W' → (convert 35 9 v).run Tryd.prog W' = .ok (.string sl) W') ∧ Below W.heap.size W w')
    (KM : ∀ (W : World) (x y : Value), JV W ta x → JV W tb y → TabU W → Calls Tryd.prog 17 #[.iface 50 (.slice (some ⟨W.heap.size, 0, none⟩) 2 2)] (W.alloc (.cells #[x, y] 20)) fun e w' => ∃ v, e = .returned (.tuple #[v, .int .i64 0]) ∧ (∀ W', Below w'.heap.size w' W' → (convert 35 9 v).run Tryd.prog W' = .ok (.string sm) W') ∧ Below W.heap.size W w')
    (KC : ∀ (W : World) (x y : Value), JV W ta x → JV W tb y → TabU W → Calls Tryd.prog 12 #[.iface 50 (.slice (some ⟨W.heap.size, 0, none⟩) 1 1), .iface 50 (.slice (some ⟨W.heap.size + 1, 0, none⟩) 2 2)] ((W.alloc (.cells #[x] 20)).alloc (.cells #[x, y] 20)) fun e w' => e = .returned (.tuple #[.int .i64 (-1), .int .i64 0]) ∧ Below W.heap.size W w')
    (hs1 : (⟨#[6]⟩ : ByteArray).size + sk.size ≤ 281474976710656) (hs2 : ((⟨#[6]⟩ : ByteArray) ++ sk).size + sl.size ≤ 281474976710656) (hs3 : ((⟨#[6]⟩ : ByteArray) ++ sk ++ sl).size + (⟨#[0]⟩ : ByteArray).size ≤ 281474976710656)
    (he : (sm.toList == ((⟨#[6]⟩ : ByteArray) ++ sk ++ sl ++ ⟨#[0]⟩).toList) = true) :
    Calls Tryd.prog 10 #[.agg #[a0, a1, a2, a3, a4, a5], .agg #[b0, b1, b2, b3, b4, b5]] w fun e w' => e = .returned (.bool true) ∧ Below w.heap.size w w' := by
  have H1 := Lib.hid KA
  have H2 := Lib.hid KB
  have H3 := Lib.hid KM
  have H4 := Lib.hid KC
  have HS := Lib.hid (And.intro hs1 (And.intro hs2 hs3))
  have HE := Lib.hid he
  clear KA KB KM KC hs1 hs2 hs3 he
  obtain ⟨W0, hW⟩ : ∃ W0, W0 = ((w.alloc (.cells #[a0, a1, a2, a3, a4, a5] 25)).alloc (.cells #[b0, b1, b2, b3, b4, b5] 25)) := ⟨_, rfl⟩
  have hz : W0.heap.size = w.heap.size + 2 := by rw [hW]; simp
  have PW := Lib.hid (show ∀ W : World, Below W0.heap.size W0 W → Below w.heap.size w W from fun W hbel => by
    have l : Below w.heap.size w W0 := by rw [hW]; exact ((Below.refl _ _).alloc (Nat.le_refl _) _).alloc (by simp; try omega) _
    exact l.trans (hbel.mono (by omega)))
  have KS := Lib.hid (show ∀ W : World, Below W0.heap.size W0 W → W.cell? ⟨w.heap.size, 0, none⟩ = some a0 ∧ W.cell? ⟨w.heap.size, 1, none⟩ = some a1 ∧ W.cell? ⟨w.heap.size, 2, none⟩ = some a2 ∧ W.cell? ⟨w.heap.size, 3, none⟩ = some a3 ∧ W.cell? ⟨w.heap.size, 4, none⟩ = some a4 ∧ W.cell? ⟨w.heap.size, 5, none⟩ = some a5 ∧ W.cell? ⟨w.heap.size + 1, 0, none⟩ = some b0 ∧ W.cell? ⟨w.heap.size + 1, 1, none⟩ = some b1 ∧ W.cell? ⟨w.heap.size + 1, 2, none⟩ = some b2 ∧ W.cell? ⟨w.heap.size + 1, 3, none⟩ = some b3 ∧ W.cell? ⟨w.heap.size + 1, 4, none⟩ = some b4 ∧ W.cell? ⟨w.heap.size + 1, 5, none⟩ = some b5 from fun W hbel => by
    have l2 := hbel
    rw [hW] at l2
    have l1 : Below (w.alloc (.cells #[a0, a1, a2, a3, a4, a5] 25)).heap.size (w.alloc (.cells #[a0, a1, a2, a3, a4, a5] 25)) W := ((Below.refl (w.alloc (.cells #[a0, a1, a2, a3, a4, a5] 25)).heap.size (w.alloc (.cells #[a0, a1, a2, a3, a4, a5] 25))).alloc (Nat.le_refl _) (.cells #[b0, b1, b2, b3, b4, b5] 25)).trans (l2.mono (by simp))
    have Ba := boxed (w := w) (W1 := (w.alloc (.cells #[a0, a1, a2, a3, a4, a5] 25))) rfl (wr := W) l1
    have Bb := boxed (w := (w.alloc (.cells #[a0, a1, a2, a3, a4, a5] 25))) (W1 := ((w.alloc (.cells #[a0, a1, a2, a3, a4, a5] 25)).alloc (.cells #[b0, b1, b2, b3, b4, b5] 25))) rfl (wr := W) l2
    simp only [World.size_alloc] at Bb
    exact ⟨Ba.1, Ba.2.1, Ba.2.2.1, Ba.2.2.2.1, Ba.2.2.2.2.1, Ba.2.2.2.2.2.1, Bb.1, Bb.2.1, Bb.2.2.1, Bb.2.2.2.1, Bb.2.2.2.2.1, Bb.2.2.2.2.2.1⟩)
  have LD := Lib.hid (show ∀ W : World, Below W0.heap.size W0 W → W.rangeAt (w.heap.size) 0 [a0, a1, a2, a3, a4, a5] ∧ W.rangeAt (w.heap.size + 1) 0 [b0, b1, b2, b3, b4, b5] from fun W hbel => by
    obtain ⟨a0, a1, a2, a3, a4, a5, b0, b1, b2, b3, b4, b5⟩ := KS.out W hbel
    exact ⟨range6 a0 a1 a2 a3 a4 a5, range6 b0 b1 b2 b3 b4 b5⟩)
  have HT := Lib.hid (show ∀ W : World, Below W0.heap.size W0 W → TabU W from fun W hbel => hT.below (PW.out W hbel))
  have La := Lib.hid (show ∀ W : World, Below W0.heap.size W0 W → Calls Tryd.prog 11 #[.agg #[a0, a1, a2, a3, a4, a5]] W fun e w' => e = .returned (.bool true) ∧ Below W.heap.size W w' from fun W hbel => by rw [← la]; exact light_any ta _ W (ia.keep (KeepC.below (PW.out W hbel))))
  have Lb := Lib.hid (show ∀ W : World, Below W0.heap.size W0 W → Calls Tryd.prog 11 #[.agg #[b0, b1, b2, b3, b4, b5]] W fun e w' => e = .returned (.bool true) ∧ Below W.heap.size W w' from fun W hbel => by rw [← lb]; exact light_any tb _ W (ib.keep (KeepC.below (PW.out W hbel))))
  have Ma := Lib.hid (show ∀ W : World, Below W0.heap.size W0 W → Calls Tryd.prog 14 #[.agg #[a0, a1, a2, a3, a4, a5]] W fun e w' => e = .returned (.int .i64 0) ∧ Below W.heap.size W w' from fun W hbel => by have q := refMay_any ta _ W (light_ok la).1 (ia.keep (KeepC.below (PW.out W hbel))); rw [ha] at q; exact q)
  have Mb := Lib.hid (show ∀ W : World, Below W0.heap.size W0 W → Calls Tryd.prog 14 #[.agg #[b0, b1, b2, b3, b4, b5]] W fun e w' => e = .returned (.int .i64 0) ∧ Below W.heap.size W w' from fun W hbel => by have q := refMay_any tb _ W (light_ok lb).1 (ib.keep (KeepC.below (PW.out W hbel))); rw [hb] at q; exact q)
  have Da := Lib.hid (show ∀ W : World, Below W0.heap.size W0 W → Calls Tryd.prog 24 #[.agg #[a0, a1, a2, a3, a4, a5]] W fun e w' => e = .returned (.int .i64 pa) ∧ Below W.heap.size W w' from fun W hbel => by have q := depth_any ta ⟨0, ha⟩ (light_ok la).1 _ W (ia.keep (KeepC.below (PW.out W hbel))); rw [da] at q; exact q)
  have Db := Lib.hid (show ∀ W : World, Below W0.heap.size W0 W → Calls Tryd.prog 24 #[.agg #[b0, b1, b2, b3, b4, b5]] W fun e w' => e = .returned (.int .i64 pb) ∧ Below W.heap.size W w' from fun W hbel => by have q := depth_any tb ⟨0, hb⟩ (light_ok lb).1 _ W (ib.keep (KeepC.below (PW.out W hbel))); rw [db] at q; exact q)
  have Ta := Lib.hid (show ∀ W : World, Below W0.heap.size W0 W → Calls Tryd.prog 13 #[.agg #[a0, a1, a2, a3, a4, a5]] W (ToldP ta W) from fun W hbel => told_any ta _ W (ia.keep (KeepC.below (PW.out W hbel))) (light_ok la).1)
  have Tb := Lib.hid (show ∀ W : World, Below W0.heap.size W0 W → Calls Tryd.prog 13 #[.agg #[b0, b1, b2, b3, b4, b5]] W (ToldP tb W) from fun W hbel => told_any tb _ W (ib.keep (KeepC.below (PW.out W hbel))) (light_ok lb).1)
  have HW := Lib.hid hW
  clear hW hz hT ia ib la lb ha hb da db
  go_enter Tryd.func10, Tryd.ntmps10
  go_wp2_with fail
  rw [← HW.out]
  have P0 := Lib.hid (Below.refl W0.heap.size W0)
  refine (La.out _ P0.out).mono ?_
  rintro e w1 ⟨rfl, l⟩
  have P1 := Lib.hid (P0.out.trans (l.mono P0.out.size))
  clear l
  obtain ⟨ka0, ka1, ka2, ka3, ka4, ka5, kb0, kb1, kb2, kb3, kb4, kb5⟩ := KS.out _ P1.out
  go_wp2_with fail
  clear ka0 ka1 ka2 ka3 ka4 ka5 kb0 kb1 kb2 kb3 kb4 kb5
  refine (Lb.out _ P1.out).mono ?_
  rintro e w2 ⟨rfl, l⟩
  have P2 := Lib.hid (P1.out.trans (l.mono P1.out.size))
  clear l
  obtain ⟨ka0, ka1, ka2, ka3, ka4, ka5, kb0, kb1, kb2, kb3, kb4, kb5⟩ := KS.out _ P2.out
  go_wp2_with fail
  clear ka0 ka1 ka2 ka3 ka4 ka5 kb0 kb1 kb2 kb3 kb4 kb5
  refine (Ma.out _ P2.out).mono ?_
  rintro e w3 ⟨rfl, l⟩
  have P3 := Lib.hid (P2.out.trans (l.mono P2.out.size))
  clear l
  obtain ⟨ka0, ka1, ka2, ka3, ka4, ka5, kb0, kb1, kb2, kb3, kb4, kb5⟩ := KS.out _ P3.out
  go_wp2_with fail
  clear ka0 ka1 ka2 ka3 ka4 ka5 kb0 kb1 kb2 kb3 kb4 kb5
  refine (Mb.out _ P3.out).mono ?_
  rintro e w4 ⟨rfl, l⟩
  have P4 := Lib.hid (P3.out.trans (l.mono P3.out.size))
  clear l
  obtain ⟨ka0, ka1, ka2, ka3, ka4, ka5, kb0, kb1, kb2, kb3, kb4, kb5⟩ := KS.out _ P4.out
  go_wp2_with fail
  clear ka0 ka1 ka2 ka3 ka4 ka5 kb0 kb1 kb2 kb3 kb4 kb5
  refine (Da.out _ P4.out).mono ?_
  rintro e w5 ⟨rfl, l⟩
  have P5 := Lib.hid (P4.out.trans (l.mono P4.out.size))
  clear l
  obtain ⟨ka0, ka1, ka2, ka3, ka4, ka5, kb0, kb1, kb2, kb3, kb4, kb5⟩ := KS.out _ P5.out
  go_wp2_with fail
  clear ka0 ka1 ka2 ka3 ka4 ka5 kb0 kb1 kb2 kb3 kb4 kb5
  refine (Db.out _ P5.out).mono ?_
  rintro e w6 ⟨rfl, l⟩
  have P6 := Lib.hid (P5.out.trans (l.mono P5.out.size))
  clear l
  obtain ⟨ka0, ka1, ka2, ka3, ka4, ka5, kb0, kb1, kb2, kb3, kb4, kb5⟩ := KS.out _ P6.out
  go_wp2_with fail
  have PD := Lib.hid (below_drew P6.out)
  clear ka0 ka1 ka2 ka3 ka4 ka5 kb0 kb1 kb2 kb3 kb4 kb5
  refine wp_region_held_drew (S := fun W => Below W0.heap.size W0 W) (by kernel_rfl) (PD.out) (fun hHeld => ?_)
  refine wpAnyH_take (i := 0) (oi := { dst := some 43, op := Op.load 25 (Operand.tmp 2), type := 25, pos := "outright.go:87", after := #[], guard := none }) (v := .agg #[a0, a1, a2, a3, a4, a5]) rfl (by kernel_rfl) (by kernel_rfl) (by kernel_rfl) (fun _ _ _ h => h) (yieldsIf_load_mid (by kernel_rfl) 25 (.tmp 2) rfl (w.heap.size) (0) (by kernel_rfl) [a0, a1, a2, a3, a4, a5] _ (fun W hW => (LD.out W hW).1) Tryd.underlying25 rfl (by kernel_rfl)) (by with_reducible assumption) ?_
  simp only [Act.put]
  refine wpAnyH_take (i := 2) (oi := { dst := some 45, op := Op.load 25 (Operand.tmp 3), type := 25, pos := "outright.go:87", after := #[], guard := none }) (v := .agg #[b0, b1, b2, b3, b4, b5]) rfl (by kernel_rfl) (by kernel_rfl) (by kernel_rfl) (fun _ _ _ h => h) (yieldsIf_load_mid (by kernel_rfl) 25 (.tmp 3) rfl (w.heap.size + 1) (0) (by kernel_rfl) [b0, b1, b2, b3, b4, b5] _ (fun W hW => (LD.out W hW).2) Tryd.underlying25 rfl (by kernel_rfl)) (by with_reducible assumption) ?_
  simp only [Act.put]
  refine wpAnyH_ready (rs := [1]) (by kernel_rfl) (by simp) ?_
  refine AllReadyH.cons (o := { dst := some 44, op := Op.call { callee := Callee.value (Operand.func 13), args := #[Operand.tmp 43], argTypes := #[25] }, type := 20, pos := "outright.go:87", after := #[{ on := 0, ground := Ground.data }], guard := none }) rfl (fun K hK => ?_) AllReadyH.nil
  go_simp
  go_wp2_with (go_at_call 13; (with_reducible refine (Ta.out _ PD.out).mono ?_); rintro e wa ⟨xa, rfl, hx, l⟩; have hSa := PD.out.trans (l.mono PD.out.size); have Pa := Lib.hid hSa; have Ja := Lib.hid (jv_self hx); clear hx l)
  refine hK.out _ _ (by with_reducible assumption) (fun hHeld => ?_)
  clear hK K
  refine wpAnyH_ready (rs := [3]) (by kernel_rfl) (by simp) ?_
  refine AllReadyH.cons (o := { dst := some 46, op := Op.call { callee := Callee.value (Operand.func 13), args := #[Operand.tmp 45], argTypes := #[25] }, type := 20, pos := "outright.go:87", after := #[{ on := 2, ground := Ground.data }, { on := 1, ground := Ground.chain }], guard := none }) rfl (fun K hK => ?_) AllReadyH.nil
  go_simp
  go_wp2_with (go_at_call 13; (with_reducible refine (Tb.out _ Pa.out).mono ?_); rintro e wb ⟨xb, rfl, hx, l⟩; have hSb := Pa.out.trans (l.mono Pa.out.size); have Pb := Lib.hid hSb; have Jb := Lib.hid (jv_self hx); have Jab := Lib.hid (JV.below Ja.out l); clear hx l)
  refine hK.out _ _ (by with_reducible assumption) (fun hHeld => ?_)
  clear hK K
  refine wpAnyH_ready (rs := [4]) (by kernel_rfl) (by simp) ?_
  refine AllReadyH.cons (o := { dst := some 5, op := Op.assign (Operand.tmp 44), type := 20, pos := "outright.go:87", after := #[{ on := 1, ground := Ground.data }, { on := 3, ground := Ground.chain }, { on := 0, ground := Ground.phase }, { on := 1, ground := Ground.phase }, { on := 2, ground := Ground.textOnly Departure.lateStores }, { on := 3, ground := Ground.textOnly Departure.lateStoresUnsure }], guard := none }) rfl (fun K hK => ?_) AllReadyH.nil
  go_simp
  refine hK.out _ _ (by with_reducible assumption) (fun hHeld => ?_)
  clear hK K
  refine wpAnyH_ready (rs := [5]) (by kernel_rfl) (by simp) ?_
  refine AllReadyH.cons (o := { dst := some 6, op := Op.assign (Operand.tmp 46), type := 20, pos := "outright.go:87", after := #[{ on := 3, ground := Ground.data }, { on := 4, ground := Ground.chain }, { on := 0, ground := Ground.phase }, { on := 1, ground := Ground.phase }, { on := 2, ground := Ground.phase }, { on := 3, ground := Ground.phase }, { on := 4, ground := Ground.phase }], guard := none }) rfl (fun K hK => ?_) AllReadyH.nil
  go_simp
  refine hK.out _ _ (by with_reducible assumption) (fun hHeld => ?_)
  clear hK K
  refine wpAnyH_done (by kernel_rfl) ?_ _
  clear hHeld hSa hSb
  go_wp2_with fail
  refine (H1.out _ _ Jab.out (HT.out _ Pb.out)).mono ?_
  rintro e u1 ⟨v1, rfl, c1, l⟩
  have R1 := Lib.hid (Pb.out.trans (l.mono Pb.out.size))
  have C1 := Lib.hid c1
  have Ga1 := Lib.hid (JV.below Jab.out l)
  have Gb1 := Lib.hid (JV.below Jb.out l)
  clear l c1
  go_wp2_with fail
  refine (H2.out _ _ Gb1.out (HT.out _ R1.out)).mono ?_
  rintro e u2 ⟨v2, rfl, c2, l⟩
  have R2 := Lib.hid (R1.out.trans (l.mono R1.out.size))
  have D2 := Lib.hid l
  have C2 := Lib.hid c2
  have Ga2 := Lib.hid (JV.below Ga1.out l)
  have Gb2 := Lib.hid (JV.below Gb1.out l)
  clear l c2
  have ta2 := HasJ.two Ga2.out
  have tb2 := HasJ.two Gb2.out
  rcases ta2 with rfl | ⟨T1, y1, rfl⟩ <;> rcases tb2 with rfl | ⟨T2, y2, rfl⟩
  all_goals
    go_wp2_with fail
    refine (H3.out _ _ _ Ga2.out Gb2.out (HT.out _ R2.out)).mono ?_
    rintro e u3 ⟨v3, rfl, c3, l⟩
    have R3 := Lib.hid (R2.out.trans (l.mono R2.out.size))
    have D3 := Lib.hid l
    have C3 := Lib.hid c3
    have Ga3 := Lib.hid (JV.below Ga2.out l)
    have Gb3 := Lib.hid (JV.below Gb2.out l)
    clear l c3
    go_wp2_with fail
    refine (H4.out _ _ _ Ga3.out Gb3.out (HT.out _ R3.out)).mono ?_
    rintro e u4 ⟨rfl, l⟩
    have R4 := Lib.hid (R3.out.trans (l.mono R3.out.size))
    have q3 := C3.out _ l
    have q2 := C2.out _ (D3.out.trans (l.mono D3.out.size))
    have q1 := C1.out _ (D2.out.trans ((D3.out.trans (l.mono D3.out.size)).mono D2.out.size))
    clear l
    obtain ⟨hs1, hs2, hs3⟩ := HS.out
    have he := HE.out
    go_wp2_with fail
    refine (awake_any _ (HT.out _ R4.out)).mono ?_
    rintro e wz ⟨rfl, l⟩
    have Pz := Lib.hid (PW.out _ (R4.out.trans (l.mono R4.out.size)))
    clear l
    go_wp2_with fail
    go_ret
    exact ⟨rfl, Pz.out⟩
theorem conv_later {w' W' : World} {base : Nat} {v : Value} {l : List UInt8} (h : OwnL w' base v l) (hb : Below w'.heap.size w' W') : (convert 35 9 v).run Tryd.prog W' = .ok (.string ⟨l.toArray⟩) W' := conv_own (h.below hb)
theorem key_of (t : VT) (h : lightB t = true) (hm : mayV t 0 = 0) : ∀ (W : World) (x : Value), JV W t x → TabU W → Calls Tryd.prog 17 #[x] W fun e w' => ∃ v, e = .returned (.tuple #[v, .int .i64 0]) ∧ (∀ W', Below w'.heap.size w' W' → (convert 35 9 v).run Tryd.prog W' = .ok (.string ⟨(keyV t).toArray⟩) W') ∧ Below W.heap.size W w' := fun W x hx hT =>
  (Key_any t x W hx (light_ok h).1.small hT (by have := key_short h; omega)).mono fun e w' ⟨_, h2, h3⟩ => by
    obtain ⟨v, e1, e2⟩ := h2 hm
    exact ⟨v, e1, fun W' hb => conv_later e2 hb, h3⟩
theorem may_list (m : Nat) (f : Nat → VT) (h : ∀ i, i < m → mayV (f i) 0 = 0 ∧ depthV (f i) ≤ 30) : mayV (listT m f) 0 = 0 := by
  unfold listT
  rw [mayV_list 0 rfl, if_neg (by omega)]
  exact firstE_none fun i hi => may_deep (f i) 0 1 (h i hi).1 (by have := (h i hi).2; omega)
theorem key_list2 (f : Nat → VT) : keyV (listT 2 f) = 6 :: (keyV (f 0) ++ keyV (f 1) ++ [0]) := by
  unfold listT
  rw [keyV_row (.inl rfl)]
  simp [catN, partK]
theorem small_list (m : Nat) (f : Nat → VT) (hm : m ≤ 2) (h : ∀ i, OkV (f i)) : Small (listT m f) := fun _ => ⟨by omega, fun i _ => (h i).small⟩
theorem cmpV_self (t : VT) (h : Fit t) : cmpV t t = 0 := by have := cmpV_anti t t h h; omega
theorem cmp_lists (ta tb : VT) (fa : Fit ta) : cmpV (listT 1 (fun _ => ta)) (listT 2 (fun i => if i = 0 then ta else tb)) = -1 := by
  have e := cmpV_self ta fa
  unfold listT
  rw [cmpV]
  simp [rankV, VT.k, VT.m, VT.f, VT.g, firstE, e, cmpI]
theorem orderLists_walk (ta tb : VT) (ca cb : Array Value) (w : World) (ia : InV w ta ca) (ib : InV w tb cb) (hT : TabU w) :
    Calls Tryd.prog 10 #[.agg ca, .agg cb] w fun e w' => e = .returned (.bool true) ∧ Below w.heap.size w w' := by
  obtain ⟨a0, a1, a2, a3, a4, a5, rfl⟩ := inv_lit ia
  obtain ⟨b0, b1, b2, b3, b4, b5, rfl⟩ := inv_lit ib
  cases la : lightB ta
  · exact lists_l1 ta tb _ _ _ _ _ _ _ _ _ _ _ _ w ia ib hT la
  cases lb : lightB tb
  · exact lists_l2 ta tb _ _ _ _ _ _ _ _ _ _ _ _ w ia ib hT la lb
  by_cases za : mayV ta 0 = 0
  case neg => exact lists_l3 ta tb _ _ _ _ _ _ _ _ _ _ _ _ w ia ib hT la lb _ rfl za
  by_cases zb : mayV tb 0 = 0
  case neg => exact lists_l4 ta tb _ _ _ _ _ _ _ _ _ _ _ _ w ia ib hT la lb _ za rfl zb
  by_cases pa : 30 < (depthV ta : Int)
  · exact lists_l5 ta tb _ _ _ _ _ _ _ _ _ _ _ _ w ia ib hT la lb za zb _ rfl pa
  by_cases pb : 30 < (depthV tb : Int)
  · exact lists_l6 ta tb _ _ _ _ _ _ _ _ _ _ _ _ w ia ib hT la lb za zb _ _ rfl rfl pa pb
  have fa : Fit ta := ⟨0, za⟩
  have oa := (light_ok la).1
  have ob := (light_ok lb).1
  have ka := key_short la
  have kb := key_short lb
  have hf : ∀ i, OkV ((fun i => if i = 0 then ta else tb) i) := fun i => by dsimp only; split; exact oa; exact ob
  have jl : ∀ (W : World) (x y : Value), JV W ta x → JV W tb y → JV (W.alloc (.cells #[x, y] 20)) (listT 2 (fun i => if i = 0 then ta else tb)) (.iface 50 (.slice (some ⟨W.heap.size, 0, none⟩) 2 2)) := fun W x y hx hy =>
    list_made W #[x, y] 2 _ rfl (by omega) (fun i hi => by
      rcases (show i = 0 ∨ i = 1 by omega) with rfl | rfl
      · exact ⟨x, rfl, hx⟩
      · exact ⟨y, rfl, hy⟩)
  have m2 : mayV (listT 2 (fun i => if i = 0 then ta else tb)) 0 = 0 := may_list 2 _ fun i hi => by
    rcases (show i = 0 ∨ i = 1 by omega) with rfl | rfl
    · exact ⟨za, by show depthV ta ≤ 30; omega⟩
    · exact ⟨zb, by show depthV tb ≤ 30; omega⟩
  have m1 : mayV (listT 1 (fun _ => ta)) 0 = 0 := may_list 1 _ fun i hi => ⟨za, by omega⟩
  have k2 : keyV (listT 2 (fun i => if i = 0 then ta else tb)) = 6 :: (keyV ta ++ keyV tb ++ [0]) := key_list2 _
  have hl : ∀ l : List UInt8, (⟨l.toArray⟩ : ByteArray).size = l.length := fun l => by simp [ByteArray.size]
  have happ : ∀ l m : List UInt8, (⟨l.toArray⟩ : ByteArray) ++ ⟨m.toArray⟩ = ⟨(l ++ m).toArray⟩ := fun l m => by
    have h : ((⟨l.toArray⟩ : ByteArray) ++ ⟨m.toArray⟩).data = l.toArray ++ m.toArray := ByteArray.data_append
    have h2 : ((⟨l.toArray⟩ : ByteArray) ++ ⟨m.toArray⟩).data = (l ++ m).toArray := by rw [h]; simp
    exact congrArg ByteArray.mk h2
  have e6 : (⟨#[6]⟩ : ByteArray) = ⟨([6] : List UInt8).toArray⟩ := rfl
  have e0 : (⟨#[0]⟩ : ByteArray) = ⟨([0] : List UInt8).toArray⟩ := rfl
  refine lists_main ta tb _ _ _ _ _ _ _ _ _ _ _ _ w ia ib hT la lb za zb _ _ rfl rfl pa pb ⟨(keyV ta).toArray⟩ ⟨(keyV tb).toArray⟩ ⟨(6 :: (keyV ta ++ keyV tb ++ [0])).toArray⟩ (key_of ta la za) (key_of tb lb zb) (fun W x y hx hy hT => ?_) (fun W x y hx hy hT => ?_) ?_ ?_ ?_ ?_
  · have hb : Below W.heap.size W (W.alloc (.cells #[x, y] 20)) := (Below.refl _ _).alloc (Nat.le_refl _) _
    refine (Key_any _ _ _ (jl W x y hx hy) (small_list 2 _ (by omega) hf) (hT.below hb) (by rw [k2]; simp; omega)).mono fun e w' ⟨_, h2, h3⟩ => ?_
    obtain ⟨v, e1, e2⟩ := h2 m2
    rw [k2] at e2
    exact ⟨v, e1, fun W' hb' => conv_later e2 hb', hb.trans (h3.mono hb.size)⟩
  · have hb : Below W.heap.size W (W.alloc (.cells #[x] 20)) := (Below.refl _ _).alloc (Nat.le_refl _) _
    have hb1 : Below (W.alloc (.cells #[x] 20)).heap.size (W.alloc (.cells #[x] 20)) ((W.alloc (.cells #[x] 20)).alloc (.cells #[x, y] 20)) := (Below.refl _ _).alloc (Nat.le_refl _) _
    have hz : (W.alloc (.cells #[x] 20)).heap.size = W.heap.size + 1 := by simp
    have j1 := JV.below (list_made W #[x] 1 (fun _ => ta) rfl (by omega) (fun i hi => by
      obtain rfl : i = 0 := by omega
      exact ⟨x, rfl, hx⟩)) hb1
    have j2 := jl (W.alloc (.cells #[x] 20)) x y (JV.below hx hb) (JV.below hy hb)
    rw [hz] at j2
    have hb2 := hb.trans (hb1.mono hb.size)
    refine (Compare_any _ _ _ _ _ j1 j2 (small_list 1 _ (by omega) fun _ => oa) (small_list 2 _ (by omega) hf) (hT.below hb2)).mono fun e w' ⟨h1, h2⟩ => ⟨h1.trans ?_, hb2.trans (h2.mono hb2.size)⟩
    unfold cmpEV cmpEE
    rw [if_neg (by rw [m1]; simp), if_neg (by rw [m2]; simp), if_neg (by rw [m1]; simp), m2, cmp_lists ta tb fa]
  · rw [e6, hl, hl]; simp; omega
  · rw [e6, happ, hl, hl]; simp; omega
  · rw [e6, e0, happ, happ, hl, hl]; simp; omega
  · rw [e6, e0, happ, happ, happ]; simp
end Go.Proofs.YtpmhefdalhohdaaDoor
