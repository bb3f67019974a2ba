/- The document's Key, of any value; OrderKeys: the walk. -/
import Derived.Test.YtpmhefdalhohdaaDoorORefKeyA
import Derived.Test.YtpmhefdalhohdaaDoorORefKeyN
import Derived.Test.YtpmhefdalhohdaaDoorORefKeyR
import Derived.Test.YtpmhefdalhohdaaDoorODepth
namespace Go.Proofs.YtpmhefdalhohdaaDoor
open Go.RowKit
set_option linter.unusedVariables false

def RefKeyC (t : VT) : Prop := Fit t → OkV t → (keyV t).length ≤ 1000000000 → ∀ (cs : Array Value) (w : World), InV w t cs → Calls Tryd.prog 18 #[.agg cs] w (MadeP (keyV t) w)
theorem refKey_mk (k : Int) (b : Bool) (n : Int) (s : ByteArray) (m : Nat) (f : Nat → VT) (q : Nat) (g : Nat → ByteArray) (ih : ∀ i, RefKeyC (f i)) : RefKeyC (.mk k b n s m f q g) := by
  intro ft ok hl cs w h
  have h' := h
  obtain ⟨A, c, B, d, rfl, a1, a2, a3, a4, a5, a6, a7, a8, a9⟩ := h'
  obtain ⟨o1, o2, o3, o4⟩ := ok
  have hk := ft.kind
  have hk : 0 ≤ k ∧ k ≤ 5 := hk
  unfold In64 at a1 a2
  rcases (show k = 0 ∨ k = 1 ∨ k = 2 ∨ k = 3 ∨ k = 4 ∨ k = 5 by omega) with rfl | rfl | rfl | rfl | rfl | rfl
  · have e : keyV (.mk 0 b n s m f q g) = [1] := by unfold keyV; rw [rank_mk]; simp
    rw [e]
    have := refKey_nil b n s m f q g A c B d w h
    rw [e] at this
    exact this
  · cases b
    · exact refKey_false n s m f q g A c B d w h
    · exact refKey_true n s m f q g A c B d w h
  · by_cases hr : n.tmod 4294967296 < 0
    · exact refKey_numneg b n s m f q g A c B d w h a2 _ _ rfl rfl hr
    · exact refKey_numpos b n s m f q g A c B d w h a2 _ _ rfl rfl hr
  · exact refKey_text b n s m f q g A c B d w h (by omega)
  · exact refKey_list b n s m f q g A c B d w h a4 a5 hl a8 fun i hi hli cs' W hv => ih i (ft.item (.inl rfl) hi).1 (o4 (.inl rfl) i hi).2 hli cs' W hv
  · obtain rfl := o3 rfl
    exact refKey_object b n s q f g A c B d w h a4 a5 hl a8 a6 a7 a9 (fun i hi => by have := (o4 (.inr rfl) i hi).1 rfl; omega) fun i hi hli cs' W hv => ih i (ft.item (.inr rfl) hi).1 (o4 (.inr rfl) i hi).2 hli cs' W hv
theorem refKey_any : ∀ t : VT, RefKeyC t
  | .no => fun _ _ _ _ _ h => h.elim
  | .mk k b n s m f q g => refKey_mk k b n s m f q g fun i => refKey_any (f i)
set_option maxHeartbeats 8000000 in
set_option maxRecDepth 100000 in
theorem okeys_l (ta : VT) (a0 a1 a2 a3 a4 a5 : Value) (w : World) (ia : InV w ta #[a0, a1, a2, a3, a4, a5]) (hT : TabU w) (la : lightB ta = false) :
    Calls Tryd.prog 4 #[.agg #[a0, a1, a2, a3, a4, a5]] w fun e w' => e = .returned (.bool true) ∧ Below w.heap.size w w' := by
  obtain ⟨W0, hW⟩ : ∃ W0, W0 = (w.alloc (.cells #[a0, a1, a2, a3, a4, a5] 25)) := ⟨_, rfl⟩
  have hz : W0.heap.size = w.heap.size + 1 := by rw [hW]; simp
  have PW := Lib.hid (show ∀ W : World, Below W0.heap.size W0 W → Below w.heap.size w W from fun W hbel => by
    have l : Below w.heap.size w W0 := by rw [hW]; exact (Below.refl _ _).alloc (Nat.le_refl _) _
    exact l.trans (hbel.mono (by omega)))
  have KS := Lib.hid (show ∀ W : World, Below W0.heap.size W0 W → W.cell? ⟨w.heap.size, 0, none⟩ = some a0 ∧ W.cell? ⟨w.heap.size, 1, none⟩ = some a1 ∧ W.cell? ⟨w.heap.size, 2, none⟩ = some a2 ∧ W.cell? ⟨w.heap.size, 3, none⟩ = some a3 ∧ W.cell? ⟨w.heap.size, 4, none⟩ = some a4 ∧ W.cell? ⟨w.heap.size, 5, none⟩ = some a5 from fun W hbel => by
    have l1 := hbel
    rw [hW] at l1
    have Ba := boxed (w := w) (W1 := (w.alloc (.cells #[a0, a1, a2, a3, a4, a5] 25))) rfl (wr := W) l1
    exact ⟨Ba.1, Ba.2.1, Ba.2.2.1, Ba.2.2.2.1, Ba.2.2.2.2.1, Ba.2.2.2.2.2.1⟩)
  have LD := Lib.hid (show ∀ W : World, Below W0.heap.size W0 W → W.rangeAt (w.heap.size) 0 [a0, a1, a2, a3, a4, a5] from fun W hbel => by
    obtain ⟨a0, a1, a2, a3, a4, a5⟩ := KS.out W hbel
    exact range6 a0 a1 a2 a3 a4 a5)
  have HT := Lib.hid (show ∀ W : World, Below W0.heap.size W0 W → TabU W from fun W hbel => hT.below (PW.out W hbel))
  have La := Lib.hid (show ∀ W : World, Below W0.heap.size W0 W → Calls Tryd.prog 11 #[.agg #[a0, a1, a2, a3, a4, a5]] W fun e w' => e = .returned (.bool false) ∧ Below W.heap.size W w' from fun W hbel => by rw [← la]; exact light_any ta _ W (ia.keep (KeepC.below (PW.out W hbel))))
  have HW := Lib.hid hW
  clear hW hz hT ia la
  go_enter Tryd.func4, Tryd.ntmps4
  go_wp2_with fail
  rw [← HW.out]
  have P0 := Lib.hid (Below.refl W0.heap.size W0)
  refine (La.out _ P0.out).mono ?_
  rintro e w1 ⟨rfl, l⟩
  have P1 := Lib.hid (P0.out.trans (l.mono P0.out.size))
  clear l
  go_wp2_with fail
  go_ret
  exact ⟨rfl, PW.out _ P1.out⟩
set_option maxHeartbeats 8000000 in
set_option maxRecDepth 100000 in
theorem okeys_n (ta : VT) (a0 a1 a2 a3 a4 a5 : Value) (w : World) (ia : InV w ta #[a0, a1, a2, a3, a4, a5]) (hT : TabU w) (la : lightB ta = true) (e1 : Int) (ha : mayV ta 0 = e1) (z : e1 ≠ 0) (KN : ∀ (W : World) (x : Value), JV W ta x → TabU W → Calls Tryd.prog 17 #[x] W fun e w' => e = .returned (.tuple #[.slice none 0 0, .int .i64 e1]) ∧ Below W.heap.size W w') :
    Calls Tryd.prog 4 #[.agg #[a0, a1, a2, a3, a4, a5]] w fun e w' => e = .returned (.bool true) ∧ Below w.heap.size w w' := by
  have q1 : (e1 != 0) = true := by simpa using z
  have q3 : (e1 == e1) = true := by simp
  have H1 := Lib.hid KN
  clear KN
  obtain ⟨W0, hW⟩ : ∃ W0, W0 = (w.alloc (.cells #[a0, a1, a2, a3, a4, a5] 25)) := ⟨_, rfl⟩
  have hz : W0.heap.size = w.heap.size + 1 := by rw [hW]; simp
  have PW := Lib.hid (show ∀ W : World, Below W0.heap.size W0 W → Below w.heap.size w W from fun W hbel => by
    have l : Below w.heap.size w W0 := by rw [hW]; exact (Below.refl _ _).alloc (Nat.le_refl _) _
    exact l.trans (hbel.mono (by omega)))
  have KS := Lib.hid (show ∀ W : World, Below W0.heap.size W0 W → W.cell? ⟨w.heap.size, 0, none⟩ = some a0 ∧ W.cell? ⟨w.heap.size, 1, none⟩ = some a1 ∧ W.cell? ⟨w.heap.size, 2, none⟩ = some a2 ∧ W.cell? ⟨w.heap.size, 3, none⟩ = some a3 ∧ W.cell? ⟨w.heap.size, 4, none⟩ = some a4 ∧ W.cell? ⟨w.heap.size, 5, none⟩ = some a5 from fun W hbel => by
    have l1 := hbel
    rw [hW] at l1
    have Ba := boxed (w := w) (W1 := (w.alloc (.cells #[a0, a1, a2, a3, a4, a5] 25))) rfl (wr := W) l1
    exact ⟨Ba.1, Ba.2.1, Ba.2.2.1, Ba.2.2.2.1, Ba.2.2.2.2.1, Ba.2.2.2.2.2.1⟩)
  have LD := Lib.hid (show ∀ W : World, Below W0.heap.size W0 W → W.rangeAt (w.heap.size) 0 [a0, a1, a2, a3, a4, a5] from fun W hbel => by
    obtain ⟨a0, a1, a2, a3, a4, a5⟩ := KS.out W hbel
    exact range6 a0 a1 a2 a3 a4 a5)
  have HT := Lib.hid (show ∀ W : World, Below W0.heap.size W0 W → TabU W from fun W hbel => hT.below (PW.out W hbel))
  have La := Lib.hid (show ∀ W : World, Below W0.heap.size W0 W → Calls Tryd.prog 11 #[.agg #[a0, a1, a2, a3, a4, a5]] W fun e w' => e = .returned (.bool true) ∧ Below W.heap.size W w' from fun W hbel => by rw [← la]; exact light_any ta _ W (ia.keep (KeepC.below (PW.out W hbel))))
  have Ta := Lib.hid (show ∀ W : World, Below W0.heap.size W0 W → Calls Tryd.prog 13 #[.agg #[a0, a1, a2, a3, a4, a5]] W (ToldP ta W) from fun W hbel => told_any ta _ W (ia.keep (KeepC.below (PW.out W hbel))) (light_ok la).1)
  have Ma := Lib.hid (show ∀ W : World, Below W0.heap.size W0 W → Calls Tryd.prog 14 #[.agg #[a0, a1, a2, a3, a4, a5]] W fun e w' => e = .returned (.int .i64 e1) ∧ Below W.heap.size W w' from fun W hbel => by have q := refMay_any ta _ W (light_ok la).1 (ia.keep (KeepC.below (PW.out W hbel))); rw [ha] at q; exact q)
  have HW := Lib.hid hW
  clear hW hz hT ia la ha z
  go_enter Tryd.func4, Tryd.ntmps4
  go_wp2_with fail
  rw [← HW.out]
  have P0 := Lib.hid (Below.refl W0.heap.size W0)
  refine (La.out _ P0.out).mono ?_
  rintro e w1 ⟨rfl, l⟩
  have P1 := Lib.hid (P0.out.trans (l.mono P0.out.size))
  clear l
  obtain ⟨ka0, ka1, ka2, ka3, ka4, ka5⟩ := KS.out _ P1.out
  go_wp2_with fail
  clear ka0 ka1 ka2 ka3 ka4 ka5
  refine (Ta.out _ P1.out).mono ?_
  rintro e wa ⟨xa, rfl, hx, l⟩
  have Pa := Lib.hid (P1.out.trans (l.mono P1.out.size))
  have Ja := Lib.hid (jv_self hx)
  clear hx l
  go_wp2_with fail
  refine (H1.out _ _ Ja.out (HT.out _ Pa.out)).mono ?_
  rintro e u1 ⟨rfl, l⟩
  have R1 := Lib.hid (Pa.out.trans (l.mono Pa.out.size))
  clear l
  obtain ⟨ka0, ka1, ka2, ka3, ka4, ka5⟩ := KS.out _ R1.out
  go_wp2_with fail
  clear ka0 ka1 ka2 ka3 ka4 ka5
  refine (Ma.out _ R1.out).mono ?_
  rintro e w4 ⟨rfl, l⟩
  have R2 := Lib.hid (R1.out.trans (l.mono R1.out.size))
  clear l
  go_wp2_with fail
  refine (awake_any _ (HT.out _ R2.out)).mono ?_
  rintro e wz ⟨rfl, l⟩
  have Pz := Lib.hid (PW.out _ (R2.out.trans (l.mono R2.out.size)))
  clear l
  go_wp2_with fail
  go_ret
  exact ⟨rfl, Pz.out⟩
set_option maxHeartbeats 8000000 in
set_option maxRecDepth 100000 in
theorem okeys_y (ta : VT) (a0 a1 a2 a3 a4 a5 : Value) (w : World) (ia : InV w ta #[a0, a1, a2, a3, a4, a5]) (hT : TabU w) (la : lightB ta = true) (ha : mayV ta 0 = 0) (sk : ByteArray) (KA : ∀ (W : World) (x : Value), JV W ta x → TabU W → Calls Tryd.prog 17 #[x] W fun e w' => ∃ v, e = .returned (.tuple #[v, .int .i64 0]) ∧ (∀ W', Below w'.heap.size w' W' → (convert 35 9 v).run Tryd.prog W' = .ok (.string sk) W') ∧ Below W.heap.size W w') (KR : ∀ (W : World), InV W ta #[a0, a1, a2, a3, a4, a5] → Calls Tryd.prog 18 #[.agg #[a0, a1, a2, a3, a4, a5]] W fun e w' => ∃ v, e = .returned v ∧ (∀ W', Below w'.heap.size w' W' → (convert 35 9 v).run Tryd.prog W' = .ok (.string sk) W') ∧ Below W.heap.size W w') :
    Calls Tryd.prog 4 #[.agg #[a0, a1, a2, a3, a4, a5]] w fun e w' => e = .returned (.bool true) ∧ Below w.heap.size w w' := by
  have q0 : (sk.toList == sk.toList) = true := by simp
  have H1 := Lib.hid KA
  have H2 := Lib.hid KR
  clear KA KR
  obtain ⟨W0, hW⟩ : ∃ W0, W0 = (w.alloc (.cells #[a0, a1, a2, a3, a4, a5] 25)) := ⟨_, rfl⟩
  have hz : W0.heap.size = w.heap.size + 1 := by rw [hW]; simp
  have PW := Lib.hid (show ∀ W : World, Below W0.heap.size W0 W → Below w.heap.size w W from fun W hbel => by
    have l : Below w.heap.size w W0 := by rw [hW]; exact (Below.refl _ _).alloc (Nat.le_refl _) _
    exact l.trans (hbel.mono (by omega)))
  have KS := Lib.hid (show ∀ W : World, Below W0.heap.size W0 W → W.cell? ⟨w.heap.size, 0, none⟩ = some a0 ∧ W.cell? ⟨w.heap.size, 1, none⟩ = some a1 ∧ W.cell? ⟨w.heap.size, 2, none⟩ = some a2 ∧ W.cell? ⟨w.heap.size, 3, none⟩ = some a3 ∧ W.cell? ⟨w.heap.size, 4, none⟩ = some a4 ∧ W.cell? ⟨w.heap.size, 5, none⟩ = some a5 from fun W hbel => by
    have l1 := hbel
    rw [hW] at l1
    have Ba := boxed (w := w) (W1 := (w.alloc (.cells #[a0, a1, a2, a3, a4, a5] 25))) rfl (wr := W) l1
    exact ⟨Ba.1, Ba.2.1, Ba.2.2.1, Ba.2.2.2.1, Ba.2.2.2.2.1, Ba.2.2.2.2.2.1⟩)
  have LD := Lib.hid (show ∀ W : World, Below W0.heap.size W0 W → W.rangeAt (w.heap.size) 0 [a0, a1, a2, a3, a4, a5] from fun W hbel => by
    obtain ⟨a0, a1, a2, a3, a4, a5⟩ := KS.out W hbel
    exact range6 a0 a1 a2 a3 a4 a5)
  have HT := Lib.hid (show ∀ W : World, Below W0.heap.size W0 W → TabU W from fun W hbel => hT.below (PW.out W hbel))
  have La := Lib.hid (show ∀ W : World, Below W0.heap.size W0 W → Calls Tryd.prog 11 #[.agg #[a0, a1, a2, a3, a4, a5]] W fun e w' => e = .returned (.bool true) ∧ Below W.heap.size W w' from fun W hbel => by rw [← la]; exact light_any ta _ W (ia.keep (KeepC.below (PW.out W hbel))))
  have Ta := Lib.hid (show ∀ W : World, Below W0.heap.size W0 W → Calls Tryd.prog 13 #[.agg #[a0, a1, a2, a3, a4, a5]] W (ToldP ta W) from fun W hbel => told_any ta _ W (ia.keep (KeepC.below (PW.out W hbel))) (light_ok la).1)
  have Ma := Lib.hid (show ∀ W : World, Below W0.heap.size W0 W → Calls Tryd.prog 14 #[.agg #[a0, a1, a2, a3, a4, a5]] W fun e w' => e = .returned (.int .i64 0) ∧ Below W.heap.size W w' from fun W hbel => by have q := refMay_any ta _ W (light_ok la).1 (ia.keep (KeepC.below (PW.out W hbel))); rw [ha] at q; exact q)
  have RC := Lib.hid (show ∀ W : World, Below W0.heap.size W0 W → Calls Tryd.prog 18 #[.agg #[a0, a1, a2, a3, a4, a5]] W fun e w' => ∃ v, e = .returned v ∧ (∀ W', Below w'.heap.size w' W' → (convert 35 9 v).run Tryd.prog W' = .ok (.string sk) W') ∧ Below W.heap.size W w' from fun W hbel => H2.out W (ia.keep (KeepC.below (PW.out W hbel))))
  have HW := Lib.hid hW
  clear hW hz hT ia la ha
  go_enter Tryd.func4, Tryd.ntmps4
  go_wp2_with fail
  rw [← HW.out]
  have P0 := Lib.hid (Below.refl W0.heap.size W0)
  refine (La.out _ P0.out).mono ?_
  rintro e w1 ⟨rfl, l⟩
  have P1 := Lib.hid (P0.out.trans (l.mono P0.out.size))
  clear l
  obtain ⟨ka0, ka1, ka2, ka3, ka4, ka5⟩ := KS.out _ P1.out
  go_wp2_with fail
  clear ka0 ka1 ka2 ka3 ka4 ka5
  refine (Ta.out _ P1.out).mono ?_
  rintro e wa ⟨xa, rfl, hx, l⟩
  have Pa := Lib.hid (P1.out.trans (l.mono P1.out.size))
  have Ja := Lib.hid (jv_self hx)
  clear hx l
  go_wp2_with fail
  refine (H1.out _ _ Ja.out (HT.out _ Pa.out)).mono ?_
  rintro e u1 ⟨v1, rfl, c1, l⟩
  have R1 := Lib.hid (Pa.out.trans (l.mono Pa.out.size))
  have C1 := Lib.hid c1
  clear l c1
  obtain ⟨ka0, ka1, ka2, ka3, ka4, ka5⟩ := KS.out _ R1.out
  go_wp2_with fail
  clear ka0 ka1 ka2 ka3 ka4 ka5
  refine (Ma.out _ R1.out).mono ?_
  rintro e u2 ⟨rfl, l⟩
  have R2 := Lib.hid (R1.out.trans (l.mono R1.out.size))
  have C2 := Lib.hid (show ∀ W' : World, Below u2.heap.size u2 W' → (convert 35 9 v1).run Tryd.prog W' = .ok (.string sk) W' from fun W' hb => C1.out W' (l.trans (hb.mono l.size)))
  clear l
  go_wp2_with fail
  have QD := Lib.hid (below_drew (Below.refl u2.heap.size u2))
  refine wp_region_held_drew (S := fun W => Below u2.heap.size u2 W) (by kernel_rfl) (QD.out) (fun hHeld => ?_)
  refine wpAnyH_take (i := 0) (oi := { dst := some 30, op := Op.move (Operand.tmp 4), type := 27, pos := "law.go:72", after := #[], guard := none }) (v := ?_) rfl (by kernel_rfl) (by kernel_rfl) (by kernel_rfl) (fun _ _ _ h => h) (Or.inl ⟨by kernel_rfl, ?_⟩) (by with_reducible assumption) ?_
  rotate_left 1
  · (intro w0 hSw; have q1 := C2.out _ hSw; (try dsimp only at hSw); go_simp; (try with_reducible rfl))
  simp only [Act.put]
  refine wpAnyH_take (i := 1) (oi := { dst := some 31, op := Op.binOp BinOp.eql 27 (Operand.tmp 30) (Operand.const (Value.int IntKind.i64 0)) 27, type := 4, pos := "law.go:72", after := #[{ on := 0, ground := Ground.data }], guard := none }) (v := ?_) rfl (by kernel_rfl) (by kernel_rfl) (by kernel_rfl) (fun _ _ _ h => h) (Or.inl ⟨by kernel_rfl, ?_⟩) (by with_reducible assumption) ?_
  rotate_left 1
  · (intro w0 hSw; have q1 := C2.out _ hSw; (try dsimp only at hSw); go_simp; (try with_reducible rfl))
  simp only [Act.put]
  refine wpAnyH_take (i := 2) (oi := { dst := some 32, op := Op.move (Operand.tmp 31), type := 4, pos := "law.go:72", after := #[{ on := 1, ground := Ground.data }], guard := none }) (v := ?_) rfl (by kernel_rfl) (by kernel_rfl) (by kernel_rfl) (fun _ _ _ h => h) (Or.inl ⟨by kernel_rfl, ?_⟩) (by with_reducible assumption) ?_
  rotate_left 1
  · (intro w0 hSw; have q1 := C2.out _ hSw; (try dsimp only at hSw); go_simp; (try with_reducible rfl))
  simp only [Act.put]
  refine wpAnyH_take (i := 3) (oi := { dst := some 33, op := Op.move (Operand.tmp 3), type := 35, pos := "law.go:72", after := #[{ on := 2, ground := Ground.guard }], guard := some (2, true) }) (v := ?_) rfl (by kernel_rfl) (by kernel_rfl) (by kernel_rfl) (fun _ _ _ h => h) (Or.inl ⟨by kernel_rfl, ?_⟩) (by with_reducible assumption) ?_
  rotate_left 1
  · (intro w0 hSw; have q1 := C2.out _ hSw; (try dsimp only at hSw); go_simp; (try with_reducible rfl))
  simp only [Act.put]
  refine wpAnyH_take (i := 5) (oi := { dst := some 35, op := Op.load 25 (Operand.tmp 1), type := 25, pos := "law.go:72", after := #[{ on := 2, ground := Ground.guard }], guard := some (2, true) }) (v := .agg #[a0, a1, a2, a3, a4, a5]) rfl (by kernel_rfl) (by kernel_rfl) (by kernel_rfl) (fun _ _ _ h => h) (yieldsIf_load_mid (by kernel_rfl) 25 (.tmp 1) rfl (w.heap.size) (0) (by kernel_rfl) [a0, a1, a2, a3, a4, a5] _ (fun W hW => LD.out W (R2.out.trans (hW.mono R2.out.size))) Tryd.underlying25 rfl (by kernel_rfl)) (by with_reducible assumption) ?_
  simp only [Act.put]
  refine wpAnyH_take (i := 4) (oi := { dst := some 34, op := Op.convert 35 9 (Operand.tmp 33), type := 9, pos := "law.go:72", after := #[{ on := 3, ground := Ground.data }, { on := 2, ground := Ground.guard }], guard := some (2, true) }) (v := ?_) rfl (by kernel_rfl) (by kernel_rfl) (by kernel_rfl) (fun _ _ _ h => h) (Or.inl ⟨by kernel_rfl, ?_⟩) (by with_reducible assumption) ?_
  rotate_left 1
  · (intro w0 hSw; have q1 := C2.out _ hSw; (try dsimp only at hSw); go_simp; (try with_reducible rfl))
  simp only [Act.put]
  refine wpAnyH_ready (rs := [6]) (by kernel_rfl) (by simp) ?_
  refine AllReadyH.cons (o := { dst := some 36, op := Op.call { callee := Callee.value (Operand.func 18), args := #[Operand.tmp 35], argTypes := #[25] }, type := 35, pos := "law.go:72", after := #[{ on := 5, ground := Ground.data }, { on := 2, ground := Ground.chain }, { on := 2, ground := Ground.guard }], guard := some (2, true) }) rfl (fun K hK => ?_) AllReadyH.nil
  go_simp
  go_wp2_with (go_at_call 18; (with_reducible refine (RC.out _ (R2.out.trans (QD.out.mono R2.out.size))).mono ?_); rintro e u3 ⟨v3, rfl, c3, l⟩; have hS3 := QD.out.trans (l.mono QD.out.size); have Q3 := Lib.hid hS3; have q3 := c3 _ (Below.refl _ _); clear c3 l)
  refine hK.out _ _ (by with_reducible assumption) (fun hHeld => ?_)
  clear hK K
  refine wpAnyH_ready (rs := [7]) (by kernel_rfl) (by simp) ?_
  refine AllReadyH.cons (o := { dst := some 37, op := Op.convert 35 9 (Operand.tmp 36), type := 9, pos := "law.go:72", after := #[{ on := 6, ground := Ground.data }, { on := 2, ground := Ground.guard }], guard := some (2, true) }) rfl (fun K hK => ?_) AllReadyH.nil
  go_simp
  refine hK.out _ _ (by with_reducible assumption) (fun hHeld => ?_)
  clear hK K
  refine wpAnyH_take (i := 8) (oi := { dst := some 38, op := Op.binOp BinOp.eql 9 (Operand.tmp 34) (Operand.tmp 37) 9, type := 4, pos := "law.go:72", after := #[{ on := 4, ground := Ground.data }, { on := 7, ground := Ground.data }, { on := 2, ground := Ground.guard }], guard := some (2, true) }) (v := ?_) rfl (by kernel_rfl) (by kernel_rfl) (by kernel_rfl) (fun _ _ _ h => h) (Or.inl ⟨by kernel_rfl, ?_⟩) (by with_reducible assumption) ?_
  rotate_left 1
  · (intro w0 hSw; have q1 := C2.out _ hSw; (try dsimp only at hSw); go_simp; (try with_reducible rfl))
  simp only [Act.put]
  refine wpAnyH_take (i := 9) (oi := { dst := some 39, op := Op.pick (Operand.tmp 32) (Operand.tmp 38) (Operand.const (Value.bool false)), type := 4, pos := "law.go:72", after := #[{ on := 2, ground := Ground.data }, { on := 8, ground := Ground.data }], guard := none }) (v := ?_) rfl (by kernel_rfl) (by kernel_rfl) (by kernel_rfl) (fun _ _ _ h => h) (Or.inl ⟨by kernel_rfl, ?_⟩) (by with_reducible assumption) ?_
  rotate_left 1
  · (intro w0 hSw; have q1 := C2.out _ hSw; (try dsimp only at hSw); go_simp; (try with_reducible rfl))
  simp only [Act.put]
  refine wpAnyH_take (i := 10) (oi := { dst := some 40, op := Op.move (Operand.tmp 39), type := 4, pos := "law.go:72", after := #[{ on := 9, ground := Ground.data }, { on := 6, ground := Ground.chain }], guard := none }) (v := ?_) rfl (by kernel_rfl) (by kernel_rfl) (by kernel_rfl) (fun _ _ _ h => h) (Or.inl ⟨by kernel_rfl, ?_⟩) (by with_reducible assumption) ?_
  rotate_left 1
  · (intro w0 hSw; have q1 := C2.out _ hSw; (try dsimp only at hSw); go_simp; (try with_reducible rfl))
  simp only [Act.put]
  refine wpAnyH_ready (rs := [11]) (by kernel_rfl) (by simp) ?_
  refine AllReadyH.cons (o := { dst := some 41, op := Op.call { callee := Callee.value (Operand.func 15), args := #[], argTypes := #[] }, type := 4, pos := "law.go:72", after := #[{ on := 10, ground := Ground.chain }, { on := 10, ground := Ground.guard }], guard := some (10, true) }) rfl (fun K hK => ?_) AllReadyH.nil
  go_simp
  go_wp2_with (go_at_call 15; (with_reducible refine (awake_any _ (HT.out _ (R2.out.trans (Q3.out.mono R2.out.size)))).mono ?_); rintro e wz ⟨rfl, l⟩; have hSz := Q3.out.trans (l.mono Q3.out.size); have Qz := Lib.hid hSz; clear l)
  refine hK.out _ _ (by with_reducible assumption) (fun hHeld => ?_)
  clear hK K
  refine wpAnyH_take (i := 12) (oi := { dst := some 42, op := Op.pick (Operand.tmp 40) (Operand.tmp 41) (Operand.const (Value.bool false)), type := 4, pos := "law.go:72", after := #[{ on := 10, ground := Ground.data }, { on := 11, ground := Ground.data }], guard := none }) (v := ?_) rfl (by kernel_rfl) (by kernel_rfl) (by kernel_rfl) (fun _ _ _ h => h) (Or.inl ⟨by kernel_rfl, ?_⟩) (by with_reducible assumption) ?_
  rotate_left 1
  · (intro w0 hSw; have q1 := C2.out _ hSw; (try dsimp only at hSw); go_simp; (try with_reducible rfl))
  simp only [Act.put]
  refine wpAnyH_ready (rs := [13]) (by kernel_rfl) (by simp) ?_
  refine AllReadyH.cons (o := { dst := some 2, op := Op.assign (Operand.tmp 42), type := 4, pos := "law.go:72", after := #[{ on := 12, ground := Ground.data }, { on := 11, ground := Ground.chain }, { on := 0, ground := Ground.phase }, { on := 1, ground := Ground.phase }, { on := 2, ground := Ground.phase }, { on := 3, ground := Ground.phase }, { on := 4, ground := Ground.phase }, { on := 5, ground := Ground.phase }, { on := 6, ground := Ground.phase }, { on := 7, ground := Ground.phase }, { on := 8, ground := Ground.phase }, { on := 9, ground := Ground.phase }, { on := 10, ground := Ground.phase }, { on := 11, ground := Ground.phase }, { on := 12, ground := Ground.phase }], guard := none }) rfl (fun K hK => ?_) AllReadyH.nil
  go_simp
  refine hK.out _ _ (by with_reducible assumption) (fun hHeld => ?_)
  clear hK K
  refine wpAnyH_done (by kernel_rfl) ?_ _
  clear hHeld hS3 hSz
  go_wp2_with fail
  go_ret
  exact ⟨rfl, PW.out _ (R2.out.trans (Qz.out.mono R2.out.size))⟩
theorem orderKeys_walk (ta : VT) (ca : Array Value) (w : World) (ia : InV w ta ca) (hT : TabU w) :
    Calls Tryd.prog 4 #[.agg ca] w fun e w' => e = .returned (.bool true) ∧ Below w.heap.size w w' := by
  obtain ⟨a0, a1, a2, a3, a4, a5, rfl⟩ := inv_lit ia
  cases la : lightB ta
  · exact okeys_l ta _ _ _ _ _ _ w ia hT la
  by_cases za : mayV ta 0 = 0
  · refine okeys_y ta _ _ _ _ _ _ w ia hT la za ⟨(keyV ta).toArray⟩ (key_of ta la za) fun W hv => ?_
    refine (refKey_any ta ⟨0, za⟩ (light_ok la).1 (by have := key_short la; omega) _ W hv).mono fun e w' ⟨v, e1, e2, e3⟩ => ⟨v, e1, fun W' hb => conv_later e2 hb, e3⟩
  · refine okeys_n ta _ _ _ _ _ _ w ia hT la _ rfl za fun W x hx hT => ?_
    exact (Key_any ta x W hx (light_ok la).1.small hT (by have := key_short la; omega)).mono fun e w' ⟨h1, _, h3⟩ => ⟨h1 za, h3⟩
end Go.Proofs.YtpmhefdalhohdaaDoor
