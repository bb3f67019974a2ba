/- OrderCompares: the walk. -/
import Derived.Test.YtpmhefdalhohdaaDoorOChainJ
import Derived.Test.YtpmhefdalhohdaaDoorORefCmpD
namespace Go.Proofs.YtpmhefdalhohdaaDoor
open Go.RowKit
set_option linter.unusedVariables false

set_option maxHeartbeats 8000000 in
set_option maxRecDepth 100000 in
theorem ocmp_l1 (ta tb : VT) (a0 a1 a2 a3 a4 a5 b0 b1 b2 b3 b4 b5 : Value) (w : World) (ia : InV w ta #[a0, a1, a2, a3, a4, a5]) (ib : InV w tb #[b0, b1, b2, b3, b4, b5]) (hT : TabU w) (la : lightB ta = false) :
    Calls Tryd.prog 3 #[.agg #[a0, a1, a2, a3, a4, a5], .agg #[b0, b1, b2, b3, b4, b5]] w fun e w' => e = .returned (.bool true) ∧ Below w.heap.size w w' := by
  obtain ⟨W0, hW⟩ : ∃ W0, W0 = ((w.alloc (.cells #[a0, a1, a2, a3, a4, a5] 25)).alloc (.cells #[b0, b1, b2, b3, b4, b5] 25)) := ⟨_, rfl⟩
  have hz : W0.heap.size = w.heap.size + 2 := by rw [hW]; simp
  have PW := Lib.hid (show ∀ W : World, Below W0.heap.size W0 W → Below w.heap.size w W from fun W hbel => by
    have l : Below w.heap.size w W0 := by rw [hW]; exact ((Below.refl _ _).alloc (Nat.le_refl _) _).alloc (by simp; try omega) _
    exact l.trans (hbel.mono (by omega)))
  have KS := Lib.hid (show ∀ W : World, Below W0.heap.size W0 W → W.cell? ⟨w.heap.size, 0, none⟩ = some a0 ∧ W.cell? ⟨w.heap.size, 1, none⟩ = some a1 ∧ W.cell? ⟨w.heap.size, 2, none⟩ = some a2 ∧ W.cell? ⟨w.heap.size, 3, none⟩ = some a3 ∧ W.cell? ⟨w.heap.size, 4, none⟩ = some a4 ∧ W.cell? ⟨w.heap.size, 5, none⟩ = some a5 ∧ W.cell? ⟨w.heap.size + 1, 0, none⟩ = some b0 ∧ W.cell? ⟨w.heap.size + 1, 1, none⟩ = some b1 ∧ W.cell? ⟨w.heap.size + 1, 2, none⟩ = some b2 ∧ W.cell? ⟨w.heap.size + 1, 3, none⟩ = some b3 ∧ W.cell? ⟨w.heap.size + 1, 4, none⟩ = some b4 ∧ W.cell? ⟨w.heap.size + 1, 5, none⟩ = some b5 from fun W hbel => by
    have l2 := hbel
    rw [hW] at l2
    have l1 : Below (w.alloc (.cells #[a0, a1, a2, a3, a4, a5] 25)).heap.size (w.alloc (.cells #[a0, a1, a2, a3, a4, a5] 25)) W := ((Below.refl (w.alloc (.cells #[a0, a1, a2, a3, a4, a5] 25)).heap.size (w.alloc (.cells #[a0, a1, a2, a3, a4, a5] 25))).alloc (Nat.le_refl _) (.cells #[b0, b1, b2, b3, b4, b5] 25)).trans (l2.mono (by simp))
    have Ba := boxed (w := w) (W1 := (w.alloc (.cells #[a0, a1, a2, a3, a4, a5] 25))) rfl (wr := W) l1
    have Bb := boxed (w := (w.alloc (.cells #[a0, a1, a2, a3, a4, a5] 25))) (W1 := ((w.alloc (.cells #[a0, a1, a2, a3, a4, a5] 25)).alloc (.cells #[b0, b1, b2, b3, b4, b5] 25))) rfl (wr := W) l2
    simp only [World.size_alloc] at Bb
    exact ⟨Ba.1, Ba.2.1, Ba.2.2.1, Ba.2.2.2.1, Ba.2.2.2.2.1, Ba.2.2.2.2.2.1, Bb.1, Bb.2.1, Bb.2.2.1, Bb.2.2.2.1, Bb.2.2.2.2.1, Bb.2.2.2.2.2.1⟩)
  have LD := Lib.hid (show ∀ W : World, Below W0.heap.size W0 W → W.rangeAt (w.heap.size) 0 [a0, a1, a2, a3, a4, a5] ∧ W.rangeAt (w.heap.size + 1) 0 [b0, b1, b2, b3, b4, b5] from fun W hbel => by
    obtain ⟨a0, a1, a2, a3, a4, a5, b0, b1, b2, b3, b4, b5⟩ := KS.out W hbel
    exact ⟨range6 a0 a1 a2 a3 a4 a5, range6 b0 b1 b2 b3 b4 b5⟩)
  have HT := Lib.hid (show ∀ W : World, Below W0.heap.size W0 W → TabU W from fun W hbel => hT.below (PW.out W hbel))
  have La := Lib.hid (show ∀ W : World, Below W0.heap.size W0 W → Calls Tryd.prog 11 #[.agg #[a0, a1, a2, a3, a4, a5]] W fun e w' => e = .returned (.bool false) ∧ Below W.heap.size W w' from fun W hbel => by rw [← la]; exact light_any ta _ W (ia.keep (KeepC.below (PW.out W hbel))))
  have HW := Lib.hid hW
  clear hW hz hT ia ib la
  go_enter Tryd.func3, Tryd.ntmps3
  go_wp2_with fail
  rw [← HW.out]
  have P0 := Lib.hid (Below.refl W0.heap.size W0)
  refine (La.out _ P0.out).mono ?_
  rintro e w1 ⟨rfl, l⟩
  have P1 := Lib.hid (P0.out.trans (l.mono P0.out.size))
  clear l
  go_wp2_with fail
  go_ret
  exact ⟨rfl, PW.out _ P1.out⟩
set_option maxHeartbeats 8000000 in
set_option maxRecDepth 100000 in
theorem ocmp_l2 (ta tb : VT) (a0 a1 a2 a3 a4 a5 b0 b1 b2 b3 b4 b5 : Value) (w : World) (ia : InV w ta #[a0, a1, a2, a3, a4, a5]) (ib : InV w tb #[b0, b1, b2, b3, b4, b5]) (hT : TabU w) (la : lightB ta = true) (lb : lightB tb = false) :
    Calls Tryd.prog 3 #[.agg #[a0, a1, a2, a3, a4, a5], .agg #[b0, b1, b2, b3, b4, b5]] w fun e w' => e = .returned (.bool true) ∧ Below w.heap.size w w' := by
  obtain ⟨W0, hW⟩ : ∃ W0, W0 = ((w.alloc (.cells #[a0, a1, a2, a3, a4, a5] 25)).alloc (.cells #[b0, b1, b2, b3, b4, b5] 25)) := ⟨_, rfl⟩
  have hz : W0.heap.size = w.heap.size + 2 := by rw [hW]; simp
  have PW := Lib.hid (show ∀ W : World, Below W0.heap.size W0 W → Below w.heap.size w W from fun W hbel => by
    have l : Below w.heap.size w W0 := by rw [hW]; exact ((Below.refl _ _).alloc (Nat.le_refl _) _).alloc (by simp; try omega) _
    exact l.trans (hbel.mono (by omega)))
  have KS := Lib.hid (show ∀ W : World, Below W0.heap.size W0 W → W.cell? ⟨w.heap.size, 0, none⟩ = some a0 ∧ W.cell? ⟨w.heap.size, 1, none⟩ = some a1 ∧ W.cell? ⟨w.heap.size, 2, none⟩ = some a2 ∧ W.cell? ⟨w.heap.size, 3, none⟩ = some a3 ∧ W.cell? ⟨w.heap.size, 4, none⟩ = some a4 ∧ W.cell? ⟨w.heap.size, 5, none⟩ = some a5 ∧ W.cell? ⟨w.heap.size + 1, 0, none⟩ = some b0 ∧ W.cell? ⟨w.heap.size + 1, 1, none⟩ = some b1 ∧ W.cell? ⟨w.heap.size + 1, 2, none⟩ = some b2 ∧ W.cell? ⟨w.heap.size + 1, 3, none⟩ = some b3 ∧ W.cell? ⟨w.heap.size + 1, 4, none⟩ = some b4 ∧ W.cell? ⟨w.heap.size + 1, 5, none⟩ = some b5 from fun W hbel => by
    have l2 := hbel
    rw [hW] at l2
    have l1 : Below (w.alloc (.cells #[a0, a1, a2, a3, a4, a5] 25)).heap.size (w.alloc (.cells #[a0, a1, a2, a3, a4, a5] 25)) W := ((Below.refl (w.alloc (.cells #[a0, a1, a2, a3, a4, a5] 25)).heap.size (w.alloc (.cells #[a0, a1, a2, a3, a4, a5] 25))).alloc (Nat.le_refl _) (.cells #[b0, b1, b2, b3, b4, b5] 25)).trans (l2.mono (by simp))
    have Ba := boxed (w := w) (W1 := (w.alloc (.cells #[a0, a1, a2, a3, a4, a5] 25))) rfl (wr := W) l1
    have Bb := boxed (w := (w.alloc (.cells #[a0, a1, a2, a3, a4, a5] 25))) (W1 := ((w.alloc (.cells #[a0, a1, a2, a3, a4, a5] 25)).alloc (.cells #[b0, b1, b2, b3, b4, b5] 25))) rfl (wr := W) l2
    simp only [World.size_alloc] at Bb
    exact ⟨Ba.1, Ba.2.1, Ba.2.2.1, Ba.2.2.2.1, Ba.2.2.2.2.1, Ba.2.2.2.2.2.1, Bb.1, Bb.2.1, Bb.2.2.1, Bb.2.2.2.1, Bb.2.2.2.2.1, Bb.2.2.2.2.2.1⟩)
  have LD := Lib.hid (show ∀ W : World, Below W0.heap.size W0 W → W.rangeAt (w.heap.size) 0 [a0, a1, a2, a3, a4, a5] ∧ W.rangeAt (w.heap.size + 1) 0 [b0, b1, b2, b3, b4, b5] from fun W hbel => by
    obtain ⟨a0, a1, a2, a3, a4, a5, b0, b1, b2, b3, b4, b5⟩ := KS.out W hbel
    exact ⟨range6 a0 a1 a2 a3 a4 a5, range6 b0 b1 b2 b3 b4 b5⟩)
  have HT := Lib.hid (show ∀ W : World, Below W0.heap.size W0 W → TabU W from fun W hbel => hT.below (PW.out W hbel))
  have La := Lib.hid (show ∀ W : World, Below W0.heap.size W0 W → Calls Tryd.prog 11 #[.agg #[a0, a1, a2, a3, a4, a5]] W fun e w' => e = .returned (.bool true) ∧ Below W.heap.size W w' from fun W hbel => by rw [← la]; exact light_any ta _ W (ia.keep (KeepC.below (PW.out W hbel))))
  have Lb := Lib.hid (show ∀ W : World, Below W0.heap.size W0 W → Calls Tryd.prog 11 #[.agg #[b0, b1, b2, b3, b4, b5]] W fun e w' => e = .returned (.bool false) ∧ Below W.heap.size W w' from fun W hbel => by rw [← lb]; exact light_any tb _ W (ib.keep (KeepC.below (PW.out W hbel))))
  have HW := Lib.hid hW
  clear hW hz hT ia ib la lb
  go_enter Tryd.func3, Tryd.ntmps3
  go_wp2_with fail
  rw [← HW.out]
  have P0 := Lib.hid (Below.refl W0.heap.size W0)
  refine (La.out _ P0.out).mono ?_
  rintro e w1 ⟨rfl, l⟩
  have P1 := Lib.hid (P0.out.trans (l.mono P0.out.size))
  clear l
  obtain ⟨ka0, ka1, ka2, ka3, ka4, ka5, kb0, kb1, kb2, kb3, kb4, kb5⟩ := KS.out _ P1.out
  go_wp2_with fail
  clear ka0 ka1 ka2 ka3 ka4 ka5 kb0 kb1 kb2 kb3 kb4 kb5
  refine (Lb.out _ P1.out).mono ?_
  rintro e w2 ⟨rfl, l⟩
  have P2 := Lib.hid (P1.out.trans (l.mono P1.out.size))
  clear l
  go_wp2_with fail
  go_ret
  exact ⟨rfl, PW.out _ P2.out⟩
set_option maxHeartbeats 8000000 in
set_option maxRecDepth 100000 in
theorem ocmp_a (ta tb : VT) (a0 a1 a2 a3 a4 a5 b0 b1 b2 b3 b4 b5 : Value) (w : World) (ia : InV w ta #[a0, a1, a2, a3, a4, a5]) (ib : InV w tb #[b0, b1, b2, b3, b4, b5]) (hT : TabU w) (la : lightB ta = true) (lb : lightB tb = true) (p e1 r : Int) (KC : ∀ (W : World) (x y : Value), JV W ta x → JV W tb y → TabU W → Calls Tryd.prog 12 #[x, y] W fun e w' => e = .returned (.tuple #[.int .i64 p, .int .i64 e1]) ∧ Below W.heap.size W w') (ma : Int) (ha : mayV ta 0 = ma) (z1 : ma ≠ 0) (y1 : e1 = ma) (y2 : p = 0) :
    Calls Tryd.prog 3 #[.agg #[a0, a1, a2, a3, a4, a5], .agg #[b0, b1, b2, b3, b4, b5]] w fun e w' => e = .returned (.bool true) ∧ Below w.heap.size w w' := by
  subst y1 y2
  have q1 : (e1 != 0) = true := by simpa using z1
  have q2 : (e1 == 0) = false := by simpa using z1
  have q3 : (e1 == e1) = true := by simp
  obtain ⟨W0, hW⟩ : ∃ W0, W0 = ((w.alloc (.cells #[a0, a1, a2, a3, a4, a5] 25)).alloc (.cells #[b0, b1, b2, b3, b4, b5] 25)) := ⟨_, rfl⟩
  have hz : W0.heap.size = w.heap.size + 2 := by rw [hW]; simp
  have PW := Lib.hid (show ∀ W : World, Below W0.heap.size W0 W → Below w.heap.size w W from fun W hbel => by
    have l : Below w.heap.size w W0 := by rw [hW]; exact ((Below.refl _ _).alloc (Nat.le_refl _) _).alloc (by simp; try omega) _
    exact l.trans (hbel.mono (by omega)))
  have KS := Lib.hid (show ∀ W : World, Below W0.heap.size W0 W → W.cell? ⟨w.heap.size, 0, none⟩ = some a0 ∧ W.cell? ⟨w.heap.size, 1, none⟩ = some a1 ∧ W.cell? ⟨w.heap.size, 2, none⟩ = some a2 ∧ W.cell? ⟨w.heap.size, 3, none⟩ = some a3 ∧ W.cell? ⟨w.heap.size, 4, none⟩ = some a4 ∧ W.cell? ⟨w.heap.size, 5, none⟩ = some a5 ∧ W.cell? ⟨w.heap.size + 1, 0, none⟩ = some b0 ∧ W.cell? ⟨w.heap.size + 1, 1, none⟩ = some b1 ∧ W.cell? ⟨w.heap.size + 1, 2, none⟩ = some b2 ∧ W.cell? ⟨w.heap.size + 1, 3, none⟩ = some b3 ∧ W.cell? ⟨w.heap.size + 1, 4, none⟩ = some b4 ∧ W.cell? ⟨w.heap.size + 1, 5, none⟩ = some b5 from fun W hbel => by
    have l2 := hbel
    rw [hW] at l2
    have l1 : Below (w.alloc (.cells #[a0, a1, a2, a3, a4, a5] 25)).heap.size (w.alloc (.cells #[a0, a1, a2, a3, a4, a5] 25)) W := ((Below.refl (w.alloc (.cells #[a0, a1, a2, a3, a4, a5] 25)).heap.size (w.alloc (.cells #[a0, a1, a2, a3, a4, a5] 25))).alloc (Nat.le_refl _) (.cells #[b0, b1, b2, b3, b4, b5] 25)).trans (l2.mono (by simp))
    have Ba := boxed (w := w) (W1 := (w.alloc (.cells #[a0, a1, a2, a3, a4, a5] 25))) rfl (wr := W) l1
    have Bb := boxed (w := (w.alloc (.cells #[a0, a1, a2, a3, a4, a5] 25))) (W1 := ((w.alloc (.cells #[a0, a1, a2, a3, a4, a5] 25)).alloc (.cells #[b0, b1, b2, b3, b4, b5] 25))) rfl (wr := W) l2
    simp only [World.size_alloc] at Bb
    exact ⟨Ba.1, Ba.2.1, Ba.2.2.1, Ba.2.2.2.1, Ba.2.2.2.2.1, Ba.2.2.2.2.2.1, Bb.1, Bb.2.1, Bb.2.2.1, Bb.2.2.2.1, Bb.2.2.2.2.1, Bb.2.2.2.2.2.1⟩)
  have LD := Lib.hid (show ∀ W : World, Below W0.heap.size W0 W → W.rangeAt (w.heap.size) 0 [a0, a1, a2, a3, a4, a5] ∧ W.rangeAt (w.heap.size + 1) 0 [b0, b1, b2, b3, b4, b5] from fun W hbel => by
    obtain ⟨a0, a1, a2, a3, a4, a5, b0, b1, b2, b3, b4, b5⟩ := KS.out W hbel
    exact ⟨range6 a0 a1 a2 a3 a4 a5, range6 b0 b1 b2 b3 b4 b5⟩)
  have HT := Lib.hid (show ∀ W : World, Below W0.heap.size W0 W → TabU W from fun W hbel => hT.below (PW.out W hbel))
  have La := Lib.hid (show ∀ W : World, Below W0.heap.size W0 W → Calls Tryd.prog 11 #[.agg #[a0, a1, a2, a3, a4, a5]] W fun e w' => e = .returned (.bool true) ∧ Below W.heap.size W w' from fun W hbel => by rw [← la]; exact light_any ta _ W (ia.keep (KeepC.below (PW.out W hbel))))
  have Lb := Lib.hid (show ∀ W : World, Below W0.heap.size W0 W → Calls Tryd.prog 11 #[.agg #[b0, b1, b2, b3, b4, b5]] W fun e w' => e = .returned (.bool true) ∧ Below W.heap.size W w' from fun W hbel => by rw [← lb]; exact light_any tb _ W (ib.keep (KeepC.below (PW.out W hbel))))
  have Ta := Lib.hid (show ∀ W : World, Below W0.heap.size W0 W → Calls Tryd.prog 13 #[.agg #[a0, a1, a2, a3, a4, a5]] W (ToldP ta W) from fun W hbel => told_any ta _ W (ia.keep (KeepC.below (PW.out W hbel))) (light_ok la).1)
  have Tb := Lib.hid (show ∀ W : World, Below W0.heap.size W0 W → Calls Tryd.prog 13 #[.agg #[b0, b1, b2, b3, b4, b5]] W (ToldP tb W) from fun W hbel => told_any tb _ W (ib.keep (KeepC.below (PW.out W hbel))) (light_ok lb).1)
  have Ma := Lib.hid (show ∀ W : World, Below W0.heap.size W0 W → Calls Tryd.prog 14 #[.agg #[a0, a1, a2, a3, a4, a5]] W fun e w' => e = .returned (.int .i64 e1) ∧ Below W.heap.size W w' from fun W hbel => by have q := refMay_any ta _ W (light_ok la).1 (ia.keep (KeepC.below (PW.out W hbel))); rw [ha] at q; exact q)
  have H1 := Lib.hid KC
  clear KC
  have HW := Lib.hid hW
  clear hW hz hT ia ib la lb ha z1
  go_enter Tryd.func3, Tryd.ntmps3
  go_wp2_with fail
  rw [← HW.out]
  have P0 := Lib.hid (Below.refl W0.heap.size W0)
  refine (La.out _ P0.out).mono ?_
  rintro e w1 ⟨rfl, l⟩
  have P1 := Lib.hid (P0.out.trans (l.mono P0.out.size))
  clear l
  obtain ⟨ka0, ka1, ka2, ka3, ka4, ka5, kb0, kb1, kb2, kb3, kb4, kb5⟩ := KS.out _ P1.out
  go_wp2_with fail
  clear ka0 ka1 ka2 ka3 ka4 ka5 kb0 kb1 kb2 kb3 kb4 kb5
  refine (Lb.out _ P1.out).mono ?_
  rintro e w2 ⟨rfl, l⟩
  have P2 := Lib.hid (P1.out.trans (l.mono P1.out.size))
  clear l
  obtain ⟨ka0, ka1, ka2, ka3, ka4, ka5, kb0, kb1, kb2, kb3, kb4, kb5⟩ := KS.out _ P2.out
  go_wp2_with fail
  have PD := Lib.hid (below_drew P2.out)
  clear ka0 ka1 ka2 ka3 ka4 ka5 kb0 kb1 kb2 kb3 kb4 kb5
  refine wp_region_held_drew (S := fun W => Below W0.heap.size W0 W) (by kernel_rfl) (PD.out) (fun hHeld => ?_)
  refine wpAnyH_take (i := 0) (oi := { dst := some 17, op := Op.load 25 (Operand.tmp 2), type := 25, pos := "law.go:52", after := #[], guard := none }) (v := .agg #[a0, a1, a2, a3, a4, a5]) rfl (by kernel_rfl) (by kernel_rfl) (by kernel_rfl) (fun _ _ _ h => h) (yieldsIf_load_mid (by kernel_rfl) 25 (.tmp 2) rfl (w.heap.size) (0) (by kernel_rfl) [a0, a1, a2, a3, a4, a5] _ (fun W hW => (LD.out W hW).1) Tryd.underlying25 rfl (by kernel_rfl)) (by with_reducible assumption) ?_
  simp only [Act.put]
  refine wpAnyH_take (i := 2) (oi := { dst := some 19, op := Op.load 25 (Operand.tmp 3), type := 25, pos := "law.go:52", after := #[], guard := none }) (v := .agg #[b0, b1, b2, b3, b4, b5]) rfl (by kernel_rfl) (by kernel_rfl) (by kernel_rfl) (fun _ _ _ h => h) (yieldsIf_load_mid (by kernel_rfl) 25 (.tmp 3) rfl (w.heap.size + 1) (0) (by kernel_rfl) [b0, b1, b2, b3, b4, b5] _ (fun W hW => (LD.out W hW).2) Tryd.underlying25 rfl (by kernel_rfl)) (by with_reducible assumption) ?_
  simp only [Act.put]
  refine wpAnyH_ready (rs := [1]) (by kernel_rfl) (by simp) ?_
  refine AllReadyH.cons (o := { dst := some 18, op := Op.call { callee := Callee.value (Operand.func 13), args := #[Operand.tmp 17], argTypes := #[25] }, type := 20, pos := "law.go:52", after := #[{ on := 0, ground := Ground.data }], guard := none }) rfl (fun K hK => ?_) AllReadyH.nil
  go_simp
  go_wp2_with (go_at_call 13; (with_reducible refine (Ta.out _ PD.out).mono ?_); rintro e wa ⟨xa, rfl, hx, l⟩; have hSa := PD.out.trans (l.mono PD.out.size); have Pa := Lib.hid hSa; have Ja := Lib.hid (jv_self hx); clear hx l)
  refine hK.out _ _ (by with_reducible assumption) (fun hHeld => ?_)
  clear hK K
  refine wpAnyH_ready (rs := [3]) (by kernel_rfl) (by simp) ?_
  refine AllReadyH.cons (o := { dst := some 20, op := Op.call { callee := Callee.value (Operand.func 13), args := #[Operand.tmp 19], argTypes := #[25] }, type := 20, pos := "law.go:52", after := #[{ on := 2, ground := Ground.data }, { on := 1, ground := Ground.chain }], guard := none }) rfl (fun K hK => ?_) AllReadyH.nil
  go_simp
  go_wp2_with (go_at_call 13; (with_reducible refine (Tb.out _ Pa.out).mono ?_); rintro e wb ⟨xb, rfl, hx, l⟩; have hSb := Pa.out.trans (l.mono Pa.out.size); have Pb := Lib.hid hSb; have Jb := Lib.hid (jv_self hx); have Jab := Lib.hid (JV.below Ja.out l); clear hx l)
  refine hK.out _ _ (by with_reducible assumption) (fun hHeld => ?_)
  clear hK K
  refine wpAnyH_ready (rs := [4]) (by kernel_rfl) (by simp) ?_
  refine AllReadyH.cons (o := { dst := some 21, op := Op.call { callee := Callee.value (Operand.func 12), args := #[Operand.tmp 18, Operand.tmp 20], argTypes := #[20, 20] }, type := 28, pos := "law.go:52", after := #[{ on := 1, ground := Ground.data }, { on := 3, ground := Ground.data }, { on := 3, ground := Ground.chain }], guard := none }) rfl (fun K hK => ?_) AllReadyH.nil
  go_simp
  go_wp2_with (go_at_call 12; (with_reducible refine (H1.out _ _ _ Jab.out Jb.out (HT.out _ Pb.out)).mono ?_); rintro e v1 ⟨rfl, l⟩; have hSv := Pb.out.trans (l.mono Pb.out.size); have R1 := Lib.hid hSv; clear l)
  refine hK.out _ _ (by with_reducible assumption) (fun hHeld => ?_)
  clear hK K
  refine wpAnyH_take (i := 5) (oi := { dst := some 16, op := Op.move (Operand.tmp 21), type := 28, pos := "law.go:52", after := #[{ on := 4, ground := Ground.data }], guard := none }) (v := ?_) rfl (by kernel_rfl) (by kernel_rfl) (by kernel_rfl) (fun _ _ _ h => h) (Or.inl ⟨by kernel_rfl, ?_⟩) (by with_reducible assumption) ?_
  rotate_left 1
  · (intro w0 hSw; (try dsimp only at hSw); go_simp; (try with_reducible rfl))
  simp only [Act.put]
  refine wpAnyH_take (i := 6) (oi := { dst := some 22, op := Op.extract (Operand.tmp 16) 0, type := 3, pos := "law.go:52", after := #[{ on := 5, ground := Ground.data }], guard := none }) (v := ?_) rfl (by kernel_rfl) (by kernel_rfl) (by kernel_rfl) (fun _ _ _ h => h) (Or.inl ⟨by kernel_rfl, ?_⟩) (by with_reducible assumption) ?_
  rotate_left 1
  · (intro w0 hSw; (try dsimp only at hSw); go_simp; (try with_reducible rfl))
  simp only [Act.put]
  refine wpAnyH_take (i := 7) (oi := { dst := some 23, op := Op.extract (Operand.tmp 16) 1, type := 27, pos := "law.go:52", after := #[{ on := 5, ground := Ground.data }, { on := 8, ground := Ground.gcOnly Departure.lateStores }], guard := none }) (v := ?_) rfl (by kernel_rfl) (by kernel_rfl) (by kernel_rfl) (fun _ _ _ h => h) (Or.inl ⟨by kernel_rfl, ?_⟩) (by with_reducible assumption) ?_
  rotate_left 1
  · (intro w0 hSw; (try dsimp only at hSw); go_simp; (try with_reducible rfl))
  simp only [Act.put]
  refine wpAnyH_ready (rs := [8]) (by kernel_rfl) (by simp) ?_
  refine AllReadyH.cons (o := { dst := some 5, op := Op.assign (Operand.tmp 22), type := 3, pos := "law.go:52", after := #[{ on := 6, ground := Ground.data }, { on := 4, ground := Ground.chain }, { on := 0, ground := Ground.phase }, { on := 1, ground := Ground.phase }, { on := 2, ground := Ground.phase }, { on := 3, ground := Ground.phase }, { on := 4, ground := Ground.phase }, { on := 5, ground := Ground.phase }, { on := 6, ground := Ground.phase }, { on := 7, ground := Ground.textOnly Departure.lateStores }], guard := none }) rfl (fun K hK => ?_) AllReadyH.nil
  go_simp
  refine hK.out _ _ (by with_reducible assumption) (fun hHeld => ?_)
  clear hK K
  refine wpAnyH_ready (rs := [9]) (by kernel_rfl) (by simp) ?_
  refine AllReadyH.cons (o := { dst := some 6, op := Op.assign (Operand.tmp 23), type := 27, pos := "law.go:52", after := #[{ on := 7, ground := Ground.data }, { on := 8, ground := Ground.chain }, { on := 0, ground := Ground.phase }, { on := 1, ground := Ground.phase }, { on := 2, ground := Ground.phase }, { on := 3, ground := Ground.phase }, { on := 4, ground := Ground.phase }, { on := 5, ground := Ground.phase }, { on := 6, ground := Ground.phase }, { on := 7, ground := Ground.phase }, { on := 8, ground := Ground.phase }], guard := none }) rfl (fun K hK => ?_) AllReadyH.nil
  go_simp
  refine hK.out _ _ (by with_reducible assumption) (fun hHeld => ?_)
  clear hK K
  refine wpAnyH_done (by kernel_rfl) ?_ _
  clear hHeld hSa hSb hSv
  obtain ⟨ka0, ka1, ka2, ka3, ka4, ka5, kb0, kb1, kb2, kb3, kb4, kb5⟩ := KS.out _ R1.out
  go_wp2_with fail
  clear ka0 ka1 ka2 ka3 ka4 ka5 kb0 kb1 kb2 kb3 kb4 kb5
  refine (Ma.out _ R1.out).mono ?_
  rintro e w4 ⟨rfl, l⟩
  have R2 := Lib.hid (R1.out.trans (l.mono R1.out.size))
  clear l
  obtain ⟨ka0, ka1, ka2, ka3, ka4, ka5, kb0, kb1, kb2, kb3, kb4, kb5⟩ := KS.out _ R2.out
  go_wp2_with fail
  clear ka0 ka1 ka2 ka3 ka4 ka5 kb0 kb1 kb2 kb3 kb4 kb5
  refine (awake_any _ (HT.out _ R2.out)).mono ?_
  rintro e wz ⟨rfl, l⟩
  have Pz := Lib.hid (PW.out _ (R2.out.trans (l.mono R2.out.size)))
  clear l
  go_wp2_with fail
  go_ret
  exact ⟨rfl, Pz.out⟩
set_option maxHeartbeats 8000000 in
set_option maxRecDepth 100000 in
theorem ocmp_b (ta tb : VT) (a0 a1 a2 a3 a4 a5 b0 b1 b2 b3 b4 b5 : Value) (w : World) (ia : InV w ta #[a0, a1, a2, a3, a4, a5]) (ib : InV w tb #[b0, b1, b2, b3, b4, b5]) (hT : TabU w) (la : lightB ta = true) (lb : lightB tb = true) (p e1 r : Int) (KC : ∀ (W : World) (x y : Value), JV W ta x → JV W tb y → TabU W → Calls Tryd.prog 12 #[x, y] W fun e w' => e = .returned (.tuple #[.int .i64 p, .int .i64 e1]) ∧ Below W.heap.size W w') (mb : Int) (ha : mayV ta 0 = 0) (hb : mayV tb 0 = mb) (z1 : mb ≠ 0) (y1 : e1 = mb) (y2 : p = 0) :
    Calls Tryd.prog 3 #[.agg #[a0, a1, a2, a3, a4, a5], .agg #[b0, b1, b2, b3, b4, b5]] w fun e w' => e = .returned (.bool true) ∧ Below w.heap.size w w' := by
  subst y1 y2
  have q1 : (e1 != 0) = true := by simpa using z1
  have q3 : (e1 == e1) = true := by simp
  obtain ⟨W0, hW⟩ : ∃ W0, W0 = ((w.alloc (.cells #[a0, a1, a2, a3, a4, a5] 25)).alloc (.cells #[b0, b1, b2, b3, b4, b5] 25)) := ⟨_, rfl⟩
  have hz : W0.heap.size = w.heap.size + 2 := by rw [hW]; simp
  have PW := Lib.hid (show ∀ W : World, Below W0.heap.size W0 W → Below w.heap.size w W from fun W hbel => by
    have l : Below w.heap.size w W0 := by rw [hW]; exact ((Below.refl _ _).alloc (Nat.le_refl _) _).alloc (by simp; try omega) _
    exact l.trans (hbel.mono (by omega)))
  have KS := Lib.hid (show ∀ W : World, Below W0.heap.size W0 W → W.cell? ⟨w.heap.size, 0, none⟩ = some a0 ∧ W.cell? ⟨w.heap.size, 1, none⟩ = some a1 ∧ W.cell? ⟨w.heap.size, 2, none⟩ = some a2 ∧ W.cell? ⟨w.heap.size, 3, none⟩ = some a3 ∧ W.cell? ⟨w.heap.size, 4, none⟩ = some a4 ∧ W.cell? ⟨w.heap.size, 5, none⟩ = some a5 ∧ W.cell? ⟨w.heap.size + 1, 0, none⟩ = some b0 ∧ W.cell? ⟨w.heap.size + 1, 1, none⟩ = some b1 ∧ W.cell? ⟨w.heap.size + 1, 2, none⟩ = some b2 ∧ W.cell? ⟨w.heap.size + 1, 3, none⟩ = some b3 ∧ W.cell? ⟨w.heap.size + 1, 4, none⟩ = some b4 ∧ W.cell? ⟨w.heap.size + 1, 5, none⟩ = some b5 from fun W hbel => by
    have l2 := hbel
    rw [hW] at l2
    have l1 : Below (w.alloc (.cells #[a0, a1, a2, a3, a4, a5] 25)).heap.size (w.alloc (.cells #[a0, a1, a2, a3, a4, a5] 25)) W := ((Below.refl (w.alloc (.cells #[a0, a1, a2, a3, a4, a5] 25)).heap.size (w.alloc (.cells #[a0, a1, a2, a3, a4, a5] 25))).alloc (Nat.le_refl _) (.cells #[b0, b1, b2, b3, b4, b5] 25)).trans (l2.mono (by simp))
    have Ba := boxed (w := w) (W1 := (w.alloc (.cells #[a0, a1, a2, a3, a4, a5] 25))) rfl (wr := W) l1
    have Bb := boxed (w := (w.alloc (.cells #[a0, a1, a2, a3, a4, a5] 25))) (W1 := ((w.alloc (.cells #[a0, a1, a2, a3, a4, a5] 25)).alloc (.cells #[b0, b1, b2, b3, b4, b5] 25))) rfl (wr := W) l2
    simp only [World.size_alloc] at Bb
    exact ⟨Ba.1, Ba.2.1, Ba.2.2.1, Ba.2.2.2.1, Ba.2.2.2.2.1, Ba.2.2.2.2.2.1, Bb.1, Bb.2.1, Bb.2.2.1, Bb.2.2.2.1, Bb.2.2.2.2.1, Bb.2.2.2.2.2.1⟩)
  have LD := Lib.hid (show ∀ W : World, Below W0.heap.size W0 W → W.rangeAt (w.heap.size) 0 [a0, a1, a2, a3, a4, a5] ∧ W.rangeAt (w.heap.size + 1) 0 [b0, b1, b2, b3, b4, b5] from fun W hbel => by
    obtain ⟨a0, a1, a2, a3, a4, a5, b0, b1, b2, b3, b4, b5⟩ := KS.out W hbel
    exact ⟨range6 a0 a1 a2 a3 a4 a5, range6 b0 b1 b2 b3 b4 b5⟩)
  have HT := Lib.hid (show ∀ W : World, Below W0.heap.size W0 W → TabU W from fun W hbel => hT.below (PW.out W hbel))
  have La := Lib.hid (show ∀ W : World, Below W0.heap.size W0 W → Calls Tryd.prog 11 #[.agg #[a0, a1, a2, a3, a4, a5]] W fun e w' => e = .returned (.bool true) ∧ Below W.heap.size W w' from fun W hbel => by rw [← la]; exact light_any ta _ W (ia.keep (KeepC.below (PW.out W hbel))))
  have Lb := Lib.hid (show ∀ W : World, Below W0.heap.size W0 W → Calls Tryd.prog 11 #[.agg #[b0, b1, b2, b3, b4, b5]] W fun e w' => e = .returned (.bool true) ∧ Below W.heap.size W w' from fun W hbel => by rw [← lb]; exact light_any tb _ W (ib.keep (KeepC.below (PW.out W hbel))))
  have Ta := Lib.hid (show ∀ W : World, Below W0.heap.size W0 W → Calls Tryd.prog 13 #[.agg #[a0, a1, a2, a3, a4, a5]] W (ToldP ta W) from fun W hbel => told_any ta _ W (ia.keep (KeepC.below (PW.out W hbel))) (light_ok la).1)
  have Tb := Lib.hid (show ∀ W : World, Below W0.heap.size W0 W → Calls Tryd.prog 13 #[.agg #[b0, b1, b2, b3, b4, b5]] W (ToldP tb W) from fun W hbel => told_any tb _ W (ib.keep (KeepC.below (PW.out W hbel))) (light_ok lb).1)
  have Ma := Lib.hid (show ∀ W : World, Below W0.heap.size W0 W → Calls Tryd.prog 14 #[.agg #[a0, a1, a2, a3, a4, a5]] W fun e w' => e = .returned (.int .i64 0) ∧ Below W.heap.size W w' from fun W hbel => by have q := refMay_any ta _ W (light_ok la).1 (ia.keep (KeepC.below (PW.out W hbel))); rw [ha] at q; exact q)
  have Mb := Lib.hid (show ∀ W : World, Below W0.heap.size W0 W → Calls Tryd.prog 14 #[.agg #[b0, b1, b2, b3, b4, b5]] W fun e w' => e = .returned (.int .i64 e1) ∧ Below W.heap.size W w' from fun W hbel => by have q := refMay_any tb _ W (light_ok lb).1 (ib.keep (KeepC.below (PW.out W hbel))); rw [hb] at q; exact q)
  have H1 := Lib.hid KC
  clear KC
  have HW := Lib.hid hW
  clear hW hz hT ia ib la lb ha hb z1
  go_enter Tryd.func3, Tryd.ntmps3
  go_wp2_with fail
  rw [← HW.out]
  have P0 := Lib.hid (Below.refl W0.heap.size W0)
  refine (La.out _ P0.out).mono ?_
  rintro e w1 ⟨rfl, l⟩
  have P1 := Lib.hid (P0.out.trans (l.mono P0.out.size))
  clear l
  obtain ⟨ka0, ka1, ka2, ka3, ka4, ka5, kb0, kb1, kb2, kb3, kb4, kb5⟩ := KS.out _ P1.out
  go_wp2_with fail
  clear ka0 ka1 ka2 ka3 ka4 ka5 kb0 kb1 kb2 kb3 kb4 kb5
  refine (Lb.out _ P1.out).mono ?_
  rintro e w2 ⟨rfl, l⟩
  have P2 := Lib.hid (P1.out.trans (l.mono P1.out.size))
  clear l
  obtain ⟨ka0, ka1, ka2, ka3, ka4, ka5, kb0, kb1, kb2, kb3, kb4, kb5⟩ := KS.out _ P2.out
  go_wp2_with fail
  have PD := Lib.hid (below_drew P2.out)
  clear ka0 ka1 ka2 ka3 ka4 ka5 kb0 kb1 kb2 kb3 kb4 kb5
  refine wp_region_held_drew (S := fun W => Below W0.heap.size W0 W) (by kernel_rfl) (PD.out) (fun hHeld => ?_)
  refine wpAnyH_take (i := 0) (oi := { dst := some 17, op := Op.load 25 (Operand.tmp 2), type := 25, pos := "law.go:52", after := #[], guard := none }) (v := .agg #[a0, a1, a2, a3, a4, a5]) rfl (by kernel_rfl) (by kernel_rfl) (by kernel_rfl) (fun _ _ _ h => h) (yieldsIf_load_mid (by kernel_rfl) 25 (.tmp 2) rfl (w.heap.size) (0) (by kernel_rfl) [a0, a1, a2, a3, a4, a5] _ (fun W hW => (LD.out W hW).1) Tryd.underlying25 rfl (by kernel_rfl)) (by with_reducible assumption) ?_
  simp only [Act.put]
  refine wpAnyH_take (i := 2) (oi := { dst := some 19, op := Op.load 25 (Operand.tmp 3), type := 25, pos := "law.go:52", after := #[], guard := none }) (v := .agg #[b0, b1, b2, b3, b4, b5]) rfl (by kernel_rfl) (by kernel_rfl) (by kernel_rfl) (fun _ _ _ h => h) (yieldsIf_load_mid (by kernel_rfl) 25 (.tmp 3) rfl (w.heap.size + 1) (0) (by kernel_rfl) [b0, b1, b2, b3, b4, b5] _ (fun W hW => (LD.out W hW).2) Tryd.underlying25 rfl (by kernel_rfl)) (by with_reducible assumption) ?_
  simp only [Act.put]
  refine wpAnyH_ready (rs := [1]) (by kernel_rfl) (by simp) ?_
  refine AllReadyH.cons (o := { dst := some 18, op := Op.call { callee := Callee.value (Operand.func 13), args := #[Operand.tmp 17], argTypes := #[25] }, type := 20, pos := "law.go:52", after := #[{ on := 0, ground := Ground.data }], guard := none }) rfl (fun K hK => ?_) AllReadyH.nil
  go_simp
  go_wp2_with (go_at_call 13; (with_reducible refine (Ta.out _ PD.out).mono ?_); rintro e wa ⟨xa, rfl, hx, l⟩; have hSa := PD.out.trans (l.mono PD.out.size); have Pa := Lib.hid hSa; have Ja := Lib.hid (jv_self hx); clear hx l)
  refine hK.out _ _ (by with_reducible assumption) (fun hHeld => ?_)
  clear hK K
  refine wpAnyH_ready (rs := [3]) (by kernel_rfl) (by simp) ?_
  refine AllReadyH.cons (o := { dst := some 20, op := Op.call { callee := Callee.value (Operand.func 13), args := #[Operand.tmp 19], argTypes := #[25] }, type := 20, pos := "law.go:52", after := #[{ on := 2, ground := Ground.data }, { on := 1, ground := Ground.chain }], guard := none }) rfl (fun K hK => ?_) AllReadyH.nil
  go_simp
  go_wp2_with (go_at_call 13; (with_reducible refine (Tb.out _ Pa.out).mono ?_); rintro e wb ⟨xb, rfl, hx, l⟩; have hSb := Pa.out.trans (l.mono Pa.out.size); have Pb := Lib.hid hSb; have Jb := Lib.hid (jv_self hx); have Jab := Lib.hid (JV.below Ja.out l); clear hx l)
  refine hK.out _ _ (by with_reducible assumption) (fun hHeld => ?_)
  clear hK K
  refine wpAnyH_ready (rs := [4]) (by kernel_rfl) (by simp) ?_
  refine AllReadyH.cons (o := { dst := some 21, op := Op.call { callee := Callee.value (Operand.func 12), args := #[Operand.tmp 18, Operand.tmp 20], argTypes := #[20, 20] }, type := 28, pos := "law.go:52", after := #[{ on := 1, ground := Ground.data }, { on := 3, ground := Ground.data }, { on := 3, ground := Ground.chain }], guard := none }) rfl (fun K hK => ?_) AllReadyH.nil
  go_simp
  go_wp2_with (go_at_call 12; (with_reducible refine (H1.out _ _ _ Jab.out Jb.out (HT.out _ Pb.out)).mono ?_); rintro e v1 ⟨rfl, l⟩; have hSv := Pb.out.trans (l.mono Pb.out.size); have R1 := Lib.hid hSv; clear l)
  refine hK.out _ _ (by with_reducible assumption) (fun hHeld => ?_)
  clear hK K
  refine wpAnyH_take (i := 5) (oi := { dst := some 16, op := Op.move (Operand.tmp 21), type := 28, pos := "law.go:52", after := #[{ on := 4, ground := Ground.data }], guard := none }) (v := ?_) rfl (by kernel_rfl) (by kernel_rfl) (by kernel_rfl) (fun _ _ _ h => h) (Or.inl ⟨by kernel_rfl, ?_⟩) (by with_reducible assumption) ?_
  rotate_left 1
  · (intro w0 hSw; (try dsimp only at hSw); go_simp; (try with_reducible rfl))
  simp only [Act.put]
  refine wpAnyH_take (i := 6) (oi := { dst := some 22, op := Op.extract (Operand.tmp 16) 0, type := 3, pos := "law.go:52", after := #[{ on := 5, ground := Ground.data }], guard := none }) (v := ?_) rfl (by kernel_rfl) (by kernel_rfl) (by kernel_rfl) (fun _ _ _ h => h) (Or.inl ⟨by kernel_rfl, ?_⟩) (by with_reducible assumption) ?_
  rotate_left 1
  · (intro w0 hSw; (try dsimp only at hSw); go_simp; (try with_reducible rfl))
  simp only [Act.put]
  refine wpAnyH_take (i := 7) (oi := { dst := some 23, op := Op.extract (Operand.tmp 16) 1, type := 27, pos := "law.go:52", after := #[{ on := 5, ground := Ground.data }, { on := 8, ground := Ground.gcOnly Departure.lateStores }], guard := none }) (v := ?_) rfl (by kernel_rfl) (by kernel_rfl) (by kernel_rfl) (fun _ _ _ h => h) (Or.inl ⟨by kernel_rfl, ?_⟩) (by with_reducible assumption) ?_
  rotate_left 1
  · (intro w0 hSw; (try dsimp only at hSw); go_simp; (try with_reducible rfl))
  simp only [Act.put]
  refine wpAnyH_ready (rs := [8]) (by kernel_rfl) (by simp) ?_
  refine AllReadyH.cons (o := { dst := some 5, op := Op.assign (Operand.tmp 22), type := 3, pos := "law.go:52", after := #[{ on := 6, ground := Ground.data }, { on := 4, ground := Ground.chain }, { on := 0, ground := Ground.phase }, { on := 1, ground := Ground.phase }, { on := 2, ground := Ground.phase }, { on := 3, ground := Ground.phase }, { on := 4, ground := Ground.phase }, { on := 5, ground := Ground.phase }, { on := 6, ground := Ground.phase }, { on := 7, ground := Ground.textOnly Departure.lateStores }], guard := none }) rfl (fun K hK => ?_) AllReadyH.nil
  go_simp
  refine hK.out _ _ (by with_reducible assumption) (fun hHeld => ?_)
  clear hK K
  refine wpAnyH_ready (rs := [9]) (by kernel_rfl) (by simp) ?_
  refine AllReadyH.cons (o := { dst := some 6, op := Op.assign (Operand.tmp 23), type := 27, pos := "law.go:52", after := #[{ on := 7, ground := Ground.data }, { on := 8, ground := Ground.chain }, { on := 0, ground := Ground.phase }, { on := 1, ground := Ground.phase }, { on := 2, ground := Ground.phase }, { on := 3, ground := Ground.phase }, { on := 4, ground := Ground.phase }, { on := 5, ground := Ground.phase }, { on := 6, ground := Ground.phase }, { on := 7, ground := Ground.phase }, { on := 8, ground := Ground.phase }], guard := none }) rfl (fun K hK => ?_) AllReadyH.nil
  go_simp
  refine hK.out _ _ (by with_reducible assumption) (fun hHeld => ?_)
  clear hK K
  refine wpAnyH_done (by kernel_rfl) ?_ _
  clear hHeld hSa hSb hSv
  obtain ⟨ka0, ka1, ka2, ka3, ka4, ka5, kb0, kb1, kb2, kb3, kb4, kb5⟩ := KS.out _ R1.out
  go_wp2_with fail
  clear ka0 ka1 ka2 ka3 ka4 ka5 kb0 kb1 kb2 kb3 kb4 kb5
  refine (Ma.out _ R1.out).mono ?_
  rintro e w4 ⟨rfl, l⟩
  have R2 := Lib.hid (R1.out.trans (l.mono R1.out.size))
  clear l
  obtain ⟨ka0, ka1, ka2, ka3, ka4, ka5, kb0, kb1, kb2, kb3, kb4, kb5⟩ := KS.out _ R2.out
  go_wp2_with fail
  clear ka0 ka1 ka2 ka3 ka4 ka5 kb0 kb1 kb2 kb3 kb4 kb5
  refine (Mb.out _ R2.out).mono ?_
  rintro e w5 ⟨rfl, l⟩
  have R3 := Lib.hid (R2.out.trans (l.mono R2.out.size))
  clear l
  obtain ⟨ka0, ka1, ka2, ka3, ka4, ka5, kb0, kb1, kb2, kb3, kb4, kb5⟩ := KS.out _ R3.out
  go_wp2_with fail
  clear ka0 ka1 ka2 ka3 ka4 ka5 kb0 kb1 kb2 kb3 kb4 kb5
  refine (awake_any _ (HT.out _ R3.out)).mono ?_
  rintro e wz ⟨rfl, l⟩
  have Pz := Lib.hid (PW.out _ (R3.out.trans (l.mono R3.out.size)))
  clear l
  go_wp2_with fail
  go_ret
  exact ⟨rfl, Pz.out⟩
set_option maxHeartbeats 8000000 in
set_option maxRecDepth 100000 in
theorem ocmp_c (ta tb : VT) (a0 a1 a2 a3 a4 a5 b0 b1 b2 b3 b4 b5 : Value) (w : World) (ia : InV w ta #[a0, a1, a2, a3, a4, a5]) (ib : InV w tb #[b0, b1, b2, b3, b4, b5]) (hT : TabU w) (la : lightB ta = true) (lb : lightB tb = true) (p e1 r : Int) (KC : ∀ (W : World) (x y : Value), JV W ta x → JV W tb y → TabU W → Calls Tryd.prog 12 #[x, y] W fun e w' => e = .returned (.tuple #[.int .i64 p, .int .i64 e1]) ∧ Below W.heap.size W w') (ha : mayV ta 0 = 0) (hb : mayV tb 0 = 0) (hr : cmpV ta tb = r) (y1 : e1 = 0) (y2 : p = r) :
    Calls Tryd.prog 3 #[.agg #[a0, a1, a2, a3, a4, a5], .agg #[b0, b1, b2, b3, b4, b5]] w fun e w' => e = .returned (.bool true) ∧ Below w.heap.size w w' := by
  subst y1 y2
  have q3 : (p == p) = true := by simp
  obtain ⟨W0, hW⟩ : ∃ W0, W0 = ((w.alloc (.cells #[a0, a1, a2, a3, a4, a5] 25)).alloc (.cells #[b0, b1, b2, b3, b4, b5] 25)) := ⟨_, rfl⟩
  have hz : W0.heap.size = w.heap.size + 2 := by rw [hW]; simp
  have PW := Lib.hid (show ∀ W : World, Below W0.heap.size W0 W → Below w.heap.size w W from fun W hbel => by
    have l : Below w.heap.size w W0 := by rw [hW]; exact ((Below.refl _ _).alloc (Nat.le_refl _) _).alloc (by simp; try omega) _
    exact l.trans (hbel.mono (by omega)))
  have KS := Lib.hid (show ∀ W : World, Below W0.heap.size W0 W → W.cell? ⟨w.heap.size, 0, none⟩ = some a0 ∧ W.cell? ⟨w.heap.size, 1, none⟩ = some a1 ∧ W.cell? ⟨w.heap.size, 2, none⟩ = some a2 ∧ W.cell? ⟨w.heap.size, 3, none⟩ = some a3 ∧ W.cell? ⟨w.heap.size, 4, none⟩ = some a4 ∧ W.cell? ⟨w.heap.size, 5, none⟩ = some a5 ∧ W.cell? ⟨w.heap.size + 1, 0, none⟩ = some b0 ∧ W.cell? ⟨w.heap.size + 1, 1, none⟩ = some b1 ∧ W.cell? ⟨w.heap.size + 1, 2, none⟩ = some b2 ∧ W.cell? ⟨w.heap.size + 1, 3, none⟩ = some b3 ∧ W.cell? ⟨w.heap.size + 1, 4, none⟩ = some b4 ∧ W.cell? ⟨w.heap.size + 1, 5, none⟩ = some b5 from fun W hbel => by
    have l2 := hbel
    rw [hW] at l2
    have l1 : Below (w.alloc (.cells #[a0, a1, a2, a3, a4, a5] 25)).heap.size (w.alloc (.cells #[a0, a1, a2, a3, a4, a5] 25)) W := ((Below.refl (w.alloc (.cells #[a0, a1, a2, a3, a4, a5] 25)).heap.size (w.alloc (.cells #[a0, a1, a2, a3, a4, a5] 25))).alloc (Nat.le_refl _) (.cells #[b0, b1, b2, b3, b4, b5] 25)).trans (l2.mono (by simp))
    have Ba := boxed (w := w) (W1 := (w.alloc (.cells #[a0, a1, a2, a3, a4, a5] 25))) rfl (wr := W) l1
    have Bb := boxed (w := (w.alloc (.cells #[a0, a1, a2, a3, a4, a5] 25))) (W1 := ((w.alloc (.cells #[a0, a1, a2, a3, a4, a5] 25)).alloc (.cells #[b0, b1, b2, b3, b4, b5] 25))) rfl (wr := W) l2
    simp only [World.size_alloc] at Bb
    exact ⟨Ba.1, Ba.2.1, Ba.2.2.1, Ba.2.2.2.1, Ba.2.2.2.2.1, Ba.2.2.2.2.2.1, Bb.1, Bb.2.1, Bb.2.2.1, Bb.2.2.2.1, Bb.2.2.2.2.1, Bb.2.2.2.2.2.1⟩)
  have LD := Lib.hid (show ∀ W : World, Below W0.heap.size W0 W → W.rangeAt (w.heap.size) 0 [a0, a1, a2, a3, a4, a5] ∧ W.rangeAt (w.heap.size + 1) 0 [b0, b1, b2, b3, b4, b5] from fun W hbel => by
    obtain ⟨a0, a1, a2, a3, a4, a5, b0, b1, b2, b3, b4, b5⟩ := KS.out W hbel
    exact ⟨range6 a0 a1 a2 a3 a4 a5, range6 b0 b1 b2 b3 b4 b5⟩)
  have HT := Lib.hid (show ∀ W : World, Below W0.heap.size W0 W → TabU W from fun W hbel => hT.below (PW.out W hbel))
  have La := Lib.hid (show ∀ W : World, Below W0.heap.size W0 W → Calls Tryd.prog 11 #[.agg #[a0, a1, a2, a3, a4, a5]] W fun e w' => e = .returned (.bool true) ∧ Below W.heap.size W w' from fun W hbel => by rw [← la]; exact light_any ta _ W (ia.keep (KeepC.below (PW.out W hbel))))
  have Lb := Lib.hid (show ∀ W : World, Below W0.heap.size W0 W → Calls Tryd.prog 11 #[.agg #[b0, b1, b2, b3, b4, b5]] W fun e w' => e = .returned (.bool true) ∧ Below W.heap.size W w' from fun W hbel => by rw [← lb]; exact light_any tb _ W (ib.keep (KeepC.below (PW.out W hbel))))
  have Ta := Lib.hid (show ∀ W : World, Below W0.heap.size W0 W → Calls Tryd.prog 13 #[.agg #[a0, a1, a2, a3, a4, a5]] W (ToldP ta W) from fun W hbel => told_any ta _ W (ia.keep (KeepC.below (PW.out W hbel))) (light_ok la).1)
  have Tb := Lib.hid (show ∀ W : World, Below W0.heap.size W0 W → Calls Tryd.prog 13 #[.agg #[b0, b1, b2, b3, b4, b5]] W (ToldP tb W) from fun W hbel => told_any tb _ W (ib.keep (KeepC.below (PW.out W hbel))) (light_ok lb).1)
  have Ma := Lib.hid (show ∀ W : World, Below W0.heap.size W0 W → Calls Tryd.prog 14 #[.agg #[a0, a1, a2, a3, a4, a5]] W fun e w' => e = .returned (.int .i64 0) ∧ Below W.heap.size W w' from fun W hbel => by have q := refMay_any ta _ W (light_ok la).1 (ia.keep (KeepC.below (PW.out W hbel))); rw [ha] at q; exact q)
  have Mb := Lib.hid (show ∀ W : World, Below W0.heap.size W0 W → Calls Tryd.prog 14 #[.agg #[b0, b1, b2, b3, b4, b5]] W fun e w' => e = .returned (.int .i64 0) ∧ Below W.heap.size W w' from fun W hbel => by have q := refMay_any tb _ W (light_ok lb).1 (ib.keep (KeepC.below (PW.out W hbel))); rw [hb] at q; exact q)
  have RC := Lib.hid (show ∀ W : World, Below W0.heap.size W0 W → Calls Tryd.prog 16 #[.agg #[a0, a1, a2, a3, a4, a5], .agg #[b0, b1, b2, b3, b4, b5]] W fun e w' => e = .returned (.int .i64 p) ∧ Below W.heap.size W w' from fun W hbel => by rw [← hr]; exact refCmp_any ta tb _ _ W (ia.keep (KeepC.below (PW.out W hbel))) (ib.keep (KeepC.below (PW.out W hbel))) ⟨0, ha⟩ ⟨0, hb⟩ (light_ok la).1 (light_ok lb).1)
  have H1 := Lib.hid KC
  clear KC
  have HW := Lib.hid hW
  clear hW hz hT ia ib la lb ha hb hr
  go_enter Tryd.func3, Tryd.ntmps3
  go_wp2_with fail
  rw [← HW.out]
  have P0 := Lib.hid (Below.refl W0.heap.size W0)
  refine (La.out _ P0.out).mono ?_
  rintro e w1 ⟨rfl, l⟩
  have P1 := Lib.hid (P0.out.trans (l.mono P0.out.size))
  clear l
  obtain ⟨ka0, ka1, ka2, ka3, ka4, ka5, kb0, kb1, kb2, kb3, kb4, kb5⟩ := KS.out _ P1.out
  go_wp2_with fail
  clear ka0 ka1 ka2 ka3 ka4 ka5 kb0 kb1 kb2 kb3 kb4 kb5
  refine (Lb.out _ P1.out).mono ?_
  rintro e w2 ⟨rfl, l⟩
  have P2 := Lib.hid (P1.out.trans (l.mono P1.out.size))
  clear l
  obtain ⟨ka0, ka1, ka2, ka3, ka4, ka5, kb0, kb1, kb2, kb3, kb4, kb5⟩ := KS.out _ P2.out
  go_wp2_with fail
  have PD := Lib.hid (below_drew P2.out)
  clear ka0 ka1 ka2 ka3 ka4 ka5 kb0 kb1 kb2 kb3 kb4 kb5
  refine wp_region_held_drew (S := fun W => Below W0.heap.size W0 W) (by kernel_rfl) (PD.out) (fun hHeld => ?_)
  refine wpAnyH_take (i := 0) (oi := { dst := some 17, op := Op.load 25 (Operand.tmp 2), type := 25, pos := "law.go:52", after := #[], guard := none }) (v := .agg #[a0, a1, a2, a3, a4, a5]) rfl (by kernel_rfl) (by kernel_rfl) (by kernel_rfl) (fun _ _ _ h => h) (yieldsIf_load_mid (by kernel_rfl) 25 (.tmp 2) rfl (w.heap.size) (0) (by kernel_rfl) [a0, a1, a2, a3, a4, a5] _ (fun W hW => (LD.out W hW).1) Tryd.underlying25 rfl (by kernel_rfl)) (by with_reducible assumption) ?_
  simp only [Act.put]
  refine wpAnyH_take (i := 2) (oi := { dst := some 19, op := Op.load 25 (Operand.tmp 3), type := 25, pos := "law.go:52", after := #[], guard := none }) (v := .agg #[b0, b1, b2, b3, b4, b5]) rfl (by kernel_rfl) (by kernel_rfl) (by kernel_rfl) (fun _ _ _ h => h) (yieldsIf_load_mid (by kernel_rfl) 25 (.tmp 3) rfl (w.heap.size + 1) (0) (by kernel_rfl) [b0, b1, b2, b3, b4, b5] _ (fun W hW => (LD.out W hW).2) Tryd.underlying25 rfl (by kernel_rfl)) (by with_reducible assumption) ?_
  simp only [Act.put]
  refine wpAnyH_ready (rs := [1]) (by kernel_rfl) (by simp) ?_
  refine AllReadyH.cons (o := { dst := some 18, op := Op.call { callee := Callee.value (Operand.func 13), args := #[Operand.tmp 17], argTypes := #[25] }, type := 20, pos := "law.go:52", after := #[{ on := 0, ground := Ground.data }], guard := none }) rfl (fun K hK => ?_) AllReadyH.nil
  go_simp
  go_wp2_with (go_at_call 13; (with_reducible refine (Ta.out _ PD.out).mono ?_); rintro e wa ⟨xa, rfl, hx, l⟩; have hSa := PD.out.trans (l.mono PD.out.size); have Pa := Lib.hid hSa; have Ja := Lib.hid (jv_self hx); clear hx l)
  refine hK.out _ _ (by with_reducible assumption) (fun hHeld => ?_)
  clear hK K
  refine wpAnyH_ready (rs := [3]) (by kernel_rfl) (by simp) ?_
  refine AllReadyH.cons (o := { dst := some 20, op := Op.call { callee := Callee.value (Operand.func 13), args := #[Operand.tmp 19], argTypes := #[25] }, type := 20, pos := "law.go:52", after := #[{ on := 2, ground := Ground.data }, { on := 1, ground := Ground.chain }], guard := none }) rfl (fun K hK => ?_) AllReadyH.nil
  go_simp
  go_wp2_with (go_at_call 13; (with_reducible refine (Tb.out _ Pa.out).mono ?_); rintro e wb ⟨xb, rfl, hx, l⟩; have hSb := Pa.out.trans (l.mono Pa.out.size); have Pb := Lib.hid hSb; have Jb := Lib.hid (jv_self hx); have Jab := Lib.hid (JV.below Ja.out l); clear hx l)
  refine hK.out _ _ (by with_reducible assumption) (fun hHeld => ?_)
  clear hK K
  refine wpAnyH_ready (rs := [4]) (by kernel_rfl) (by simp) ?_
  refine AllReadyH.cons (o := { dst := some 21, op := Op.call { callee := Callee.value (Operand.func 12), args := #[Operand.tmp 18, Operand.tmp 20], argTypes := #[20, 20] }, type := 28, pos := "law.go:52", after := #[{ on := 1, ground := Ground.data }, { on := 3, ground := Ground.data }, { on := 3, ground := Ground.chain }], guard := none }) rfl (fun K hK => ?_) AllReadyH.nil
  go_simp
  go_wp2_with (go_at_call 12; (with_reducible refine (H1.out _ _ _ Jab.out Jb.out (HT.out _ Pb.out)).mono ?_); rintro e v1 ⟨rfl, l⟩; have hSv := Pb.out.trans (l.mono Pb.out.size); have R1 := Lib.hid hSv; clear l)
  refine hK.out _ _ (by with_reducible assumption) (fun hHeld => ?_)
  clear hK K
  refine wpAnyH_take (i := 5) (oi := { dst := some 16, op := Op.move (Operand.tmp 21), type := 28, pos := "law.go:52", after := #[{ on := 4, ground := Ground.data }], guard := none }) (v := ?_) rfl (by kernel_rfl) (by kernel_rfl) (by kernel_rfl) (fun _ _ _ h => h) (Or.inl ⟨by kernel_rfl, ?_⟩) (by with_reducible assumption) ?_
  rotate_left 1
  · (intro w0 hSw; (try dsimp only at hSw); go_simp; (try with_reducible rfl))
  simp only [Act.put]
  refine wpAnyH_take (i := 6) (oi := { dst := some 22, op := Op.extract (Operand.tmp 16) 0, type := 3, pos := "law.go:52", after := #[{ on := 5, ground := Ground.data }], guard := none }) (v := ?_) rfl (by kernel_rfl) (by kernel_rfl) (by kernel_rfl) (fun _ _ _ h => h) (Or.inl ⟨by kernel_rfl, ?_⟩) (by with_reducible assumption) ?_
  rotate_left 1
  · (intro w0 hSw; (try dsimp only at hSw); go_simp; (try with_reducible rfl))
  simp only [Act.put]
  refine wpAnyH_take (i := 7) (oi := { dst := some 23, op := Op.extract (Operand.tmp 16) 1, type := 27, pos := "law.go:52", after := #[{ on := 5, ground := Ground.data }, { on := 8, ground := Ground.gcOnly Departure.lateStores }], guard := none }) (v := ?_) rfl (by kernel_rfl) (by kernel_rfl) (by kernel_rfl) (fun _ _ _ h => h) (Or.inl ⟨by kernel_rfl, ?_⟩) (by with_reducible assumption) ?_
  rotate_left 1
  · (intro w0 hSw; (try dsimp only at hSw); go_simp; (try with_reducible rfl))
  simp only [Act.put]
  refine wpAnyH_ready (rs := [8]) (by kernel_rfl) (by simp) ?_
  refine AllReadyH.cons (o := { dst := some 5, op := Op.assign (Operand.tmp 22), type := 3, pos := "law.go:52", after := #[{ on := 6, ground := Ground.data }, { on := 4, ground := Ground.chain }, { on := 0, ground := Ground.phase }, { on := 1, ground := Ground.phase }, { on := 2, ground := Ground.phase }, { on := 3, ground := Ground.phase }, { on := 4, ground := Ground.phase }, { on := 5, ground := Ground.phase }, { on := 6, ground := Ground.phase }, { on := 7, ground := Ground.textOnly Departure.lateStores }], guard := none }) rfl (fun K hK => ?_) AllReadyH.nil
  go_simp
  refine hK.out _ _ (by with_reducible assumption) (fun hHeld => ?_)
  clear hK K
  refine wpAnyH_ready (rs := [9]) (by kernel_rfl) (by simp) ?_
  refine AllReadyH.cons (o := { dst := some 6, op := Op.assign (Operand.tmp 23), type := 27, pos := "law.go:52", after := #[{ on := 7, ground := Ground.data }, { on := 8, ground := Ground.chain }, { on := 0, ground := Ground.phase }, { on := 1, ground := Ground.phase }, { on := 2, ground := Ground.phase }, { on := 3, ground := Ground.phase }, { on := 4, ground := Ground.phase }, { on := 5, ground := Ground.phase }, { on := 6, ground := Ground.phase }, { on := 7, ground := Ground.phase }, { on := 8, ground := Ground.phase }], guard := none }) rfl (fun K hK => ?_) AllReadyH.nil
  go_simp
  refine hK.out _ _ (by with_reducible assumption) (fun hHeld => ?_)
  clear hK K
  refine wpAnyH_done (by kernel_rfl) ?_ _
  clear hHeld hSa hSb hSv
  obtain ⟨ka0, ka1, ka2, ka3, ka4, ka5, kb0, kb1, kb2, kb3, kb4, kb5⟩ := KS.out _ R1.out
  go_wp2_with fail
  clear ka0 ka1 ka2 ka3 ka4 ka5 kb0 kb1 kb2 kb3 kb4 kb5
  refine (Ma.out _ R1.out).mono ?_
  rintro e w4 ⟨rfl, l⟩
  have R2 := Lib.hid (R1.out.trans (l.mono R1.out.size))
  clear l
  obtain ⟨ka0, ka1, ka2, ka3, ka4, ka5, kb0, kb1, kb2, kb3, kb4, kb5⟩ := KS.out _ R2.out
  go_wp2_with fail
  clear ka0 ka1 ka2 ka3 ka4 ka5 kb0 kb1 kb2 kb3 kb4 kb5
  refine (Mb.out _ R2.out).mono ?_
  rintro e w5 ⟨rfl, l⟩
  have R3 := Lib.hid (R2.out.trans (l.mono R2.out.size))
  clear l
  obtain ⟨ka0, ka1, ka2, ka3, ka4, ka5, kb0, kb1, kb2, kb3, kb4, kb5⟩ := KS.out _ R3.out
  go_wp2_with fail
  clear ka0 ka1 ka2 ka3 ka4 ka5 kb0 kb1 kb2 kb3 kb4 kb5
  refine (RC.out _ R3.out).mono ?_
  rintro e w6 ⟨rfl, l⟩
  have R4 := Lib.hid (R3.out.trans (l.mono R3.out.size))
  clear l
  go_wp2_with fail
  refine (awake_any _ (HT.out _ R4.out)).mono ?_
  rintro e wz ⟨rfl, l⟩
  have Pz := Lib.hid (PW.out _ (R4.out.trans (l.mono R4.out.size)))
  clear l
  go_wp2_with fail
  go_ret
  exact ⟨rfl, Pz.out⟩
theorem orderCompares_walk (ta tb : VT) (ca cb : Array Value) (w : World) (ia : InV w ta ca) (ib : InV w tb cb) (hT : TabU w) :
    Calls Tryd.prog 3 #[.agg ca, .agg cb] w fun e w' => e = .returned (.bool true) ∧ Below w.heap.size w w' := by
  obtain ⟨a0, a1, a2, a3, a4, a5, rfl⟩ := inv_lit ia
  obtain ⟨b0, b1, b2, b3, b4, b5, rfl⟩ := inv_lit ib
  cases la : lightB ta
  · exact ocmp_l1 ta tb _ _ _ _ _ _ _ _ _ _ _ _ w ia ib hT la
  cases lb : lightB tb
  · exact ocmp_l2 ta tb _ _ _ _ _ _ _ _ _ _ _ _ w ia ib hT la lb
  have K : ∀ (W : World) (x y : Value), JV W ta x → JV W tb y → TabU W → Calls Tryd.prog 12 #[x, y] W fun e w' => e = .returned (.tuple #[.int .i64 (cmpEV ta tb), .int .i64 (cmpEE ta tb)]) ∧ Below W.heap.size W w' := fun W x y h1 h2 hT => Compare_any ta tb x y W h1 h2 (light_ok la).1.small (light_ok lb).1.small hT
  by_cases za : mayV ta 0 = 0
  · by_cases zb : mayV tb 0 = 0
    · exact ocmp_c ta tb _ _ _ _ _ _ _ _ _ _ _ _ w ia ib hT la lb _ _ _ K za zb rfl (by unfold cmpEE; rw [if_neg (by omega)]; exact zb) (by unfold cmpEV; rw [if_neg (by omega), if_neg (by omega)])
    · exact ocmp_b ta tb _ _ _ _ _ _ _ _ _ _ _ _ w ia ib hT la lb _ _ 0 K _ za rfl zb (by unfold cmpEE; rw [if_neg (by omega)]) (by unfold cmpEV; rw [if_neg (by omega), if_pos zb])
  · exact ocmp_a ta tb _ _ _ _ _ _ _ _ _ _ _ _ w ia ib hT la lb _ _ 0 K _ rfl za (by unfold cmpEE; rw [if_pos za]) (by unfold cmpEV; rw [if_pos za])
end Go.Proofs.YtpmhefdalhohdaaDoor
