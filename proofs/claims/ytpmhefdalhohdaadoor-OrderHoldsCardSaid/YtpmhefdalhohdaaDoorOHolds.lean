/- OrderHolds: the early ways out. -/
import Derived.Test.YtpmhefdalhohdaaDoorODepth
namespace Go.Proofs.YtpmhefdalhohdaaDoor
open Go.RowKit
set_option linter.unusedVariables false

set_option maxHeartbeats 8000000 in
set_option maxRecDepth 100000 in
theorem holds_l1 (ta tb : VT) (a0 a1 a2 a3 a4 a5 b0 b1 b2 b3 b4 b5 : Value) (w : World) (ia : InV w ta #[a0, a1, a2, a3, a4, a5]) (ib : InV w tb #[b0, b1, b2, b3, b4, b5]) (hT : TabU w) (la : lightB ta = false) :
    Calls Tryd.prog 6 #[.agg #[a0, a1, a2, a3, a4, a5], .agg #[b0, b1, b2, b3, b4, b5]] w fun e w' => e = .returned (.bool true) ∧ Below w.heap.size w w' := by
  obtain ⟨W0, hW⟩ : ∃ W0, W0 = ((w.alloc (.cells #[a0, a1, a2, a3, a4, a5] 25)).alloc (.cells #[b0, b1, b2, b3, b4, b5] 25)) := ⟨_, rfl⟩
  have hz : W0.heap.size = w.heap.size + 2 := by rw [hW]; simp
  have PW := Lib.hid (show ∀ W : World, Below W0.heap.size W0 W → Below w.heap.size w W from fun W hbel => by
    have l : Below w.heap.size w W0 := by rw [hW]; exact ((Below.refl _ _).alloc (Nat.le_refl _) _).alloc (by simp; try omega) _
    exact l.trans (hbel.mono (by omega)))
  have KS := Lib.hid (show ∀ W : World, Below W0.heap.size W0 W → W.cell? ⟨w.heap.size, 0, none⟩ = some a0 ∧ W.cell? ⟨w.heap.size, 1, none⟩ = some a1 ∧ W.cell? ⟨w.heap.size, 2, none⟩ = some a2 ∧ W.cell? ⟨w.heap.size, 3, none⟩ = some a3 ∧ W.cell? ⟨w.heap.size, 4, none⟩ = some a4 ∧ W.cell? ⟨w.heap.size, 5, none⟩ = some a5 ∧ W.cell? ⟨w.heap.size + 1, 0, none⟩ = some b0 ∧ W.cell? ⟨w.heap.size + 1, 1, none⟩ = some b1 ∧ W.cell? ⟨w.heap.size + 1, 2, none⟩ = some b2 ∧ W.cell? ⟨w.heap.size + 1, 3, none⟩ = some b3 ∧ W.cell? ⟨w.heap.size + 1, 4, none⟩ = some b4 ∧ W.cell? ⟨w.heap.size + 1, 5, none⟩ = some b5 from fun W hbel => by
    have l2 := hbel
    rw [hW] at l2
    have l1 : Below (w.alloc (.cells #[a0, a1, a2, a3, a4, a5] 25)).heap.size (w.alloc (.cells #[a0, a1, a2, a3, a4, a5] 25)) W := ((Below.refl (w.alloc (.cells #[a0, a1, a2, a3, a4, a5] 25)).heap.size (w.alloc (.cells #[a0, a1, a2, a3, a4, a5] 25))).alloc (Nat.le_refl _) (.cells #[b0, b1, b2, b3, b4, b5] 25)).trans (l2.mono (by simp))
    have Ba := boxed (w := w) (W1 := (w.alloc (.cells #[a0, a1, a2, a3, a4, a5] 25))) rfl (wr := W) l1
    have Bb := boxed (w := (w.alloc (.cells #[a0, a1, a2, a3, a4, a5] 25))) (W1 := ((w.alloc (.cells #[a0, a1, a2, a3, a4, a5] 25)).alloc (.cells #[b0, b1, b2, b3, b4, b5] 25))) rfl (wr := W) l2
    simp only [World.size_alloc] at Bb
    exact ⟨Ba.1, Ba.2.1, Ba.2.2.1, Ba.2.2.2.1, Ba.2.2.2.2.1, Ba.2.2.2.2.2.1, Bb.1, Bb.2.1, Bb.2.2.1, Bb.2.2.2.1, Bb.2.2.2.2.1, Bb.2.2.2.2.2.1⟩)
  have LD := Lib.hid (show ∀ W : World, Below W0.heap.size W0 W → W.rangeAt (w.heap.size) 0 [a0, a1, a2, a3, a4, a5] ∧ W.rangeAt (w.heap.size + 1) 0 [b0, b1, b2, b3, b4, b5] from fun W hbel => by
    obtain ⟨a0, a1, a2, a3, a4, a5, b0, b1, b2, b3, b4, b5⟩ := KS.out W hbel
    exact ⟨range6 a0 a1 a2 a3 a4 a5, range6 b0 b1 b2 b3 b4 b5⟩)
  have HT := Lib.hid (show ∀ W : World, Below W0.heap.size W0 W → TabU W from fun W hbel => hT.below (PW.out W hbel))
  have La := Lib.hid (show ∀ W : World, Below W0.heap.size W0 W → Calls Tryd.prog 11 #[.agg #[a0, a1, a2, a3, a4, a5]] W fun e w' => e = .returned (.bool false) ∧ Below W.heap.size W w' from fun W hbel => by rw [← la]; exact light_any ta _ W (ia.keep (KeepC.below (PW.out W hbel))))
  have HW := Lib.hid hW
  clear hW hz hT ia ib la
  go_enter Tryd.func6, Tryd.ntmps6
  go_wp2_with fail
  rw [← HW.out]
  have P0 := Lib.hid (Below.refl W0.heap.size W0)
  refine (La.out _ P0.out).mono ?_
  rintro e w1 ⟨rfl, l⟩
  have P1 := Lib.hid (P0.out.trans (l.mono P0.out.size))
  clear l
  obtain ⟨ka0, ka1, ka2, ka3, ka4, ka5, kb0, kb1, kb2, kb3, kb4, kb5⟩ := KS.out _ P1.out
  go_wp2_with fail
  clear ka0 ka1 ka2 ka3 ka4 ka5 kb0 kb1 kb2 kb3 kb4 kb5
  refine (La.out _ P1.out).mono ?_
  rintro e w2 ⟨rfl, l⟩
  have P2 := Lib.hid (P1.out.trans (l.mono P1.out.size))
  clear l
  go_wp2_with fail
  go_ret
  exact ⟨rfl, PW.out _ P2.out⟩
set_option maxHeartbeats 8000000 in
set_option maxRecDepth 100000 in
theorem holds_l2 (ta tb : VT) (a0 a1 a2 a3 a4 a5 b0 b1 b2 b3 b4 b5 : Value) (w : World) (ia : InV w ta #[a0, a1, a2, a3, a4, a5]) (ib : InV w tb #[b0, b1, b2, b3, b4, b5]) (hT : TabU w) (la : lightB ta = true) (lb : lightB tb = false) :
    Calls Tryd.prog 6 #[.agg #[a0, a1, a2, a3, a4, a5], .agg #[b0, b1, b2, b3, b4, b5]] w fun e w' => e = .returned (.bool true) ∧ Below w.heap.size w w' := by
  obtain ⟨W0, hW⟩ : ∃ W0, W0 = ((w.alloc (.cells #[a0, a1, a2, a3, a4, a5] 25)).alloc (.cells #[b0, b1, b2, b3, b4, b5] 25)) := ⟨_, rfl⟩
  have hz : W0.heap.size = w.heap.size + 2 := by rw [hW]; simp
  have PW := Lib.hid (show ∀ W : World, Below W0.heap.size W0 W → Below w.heap.size w W from fun W hbel => by
    have l : Below w.heap.size w W0 := by rw [hW]; exact ((Below.refl _ _).alloc (Nat.le_refl _) _).alloc (by simp; try omega) _
    exact l.trans (hbel.mono (by omega)))
  have KS := Lib.hid (show ∀ W : World, Below W0.heap.size W0 W → W.cell? ⟨w.heap.size, 0, none⟩ = some a0 ∧ W.cell? ⟨w.heap.size, 1, none⟩ = some a1 ∧ W.cell? ⟨w.heap.size, 2, none⟩ = some a2 ∧ W.cell? ⟨w.heap.size, 3, none⟩ = some a3 ∧ W.cell? ⟨w.heap.size, 4, none⟩ = some a4 ∧ W.cell? ⟨w.heap.size, 5, none⟩ = some a5 ∧ W.cell? ⟨w.heap.size + 1, 0, none⟩ = some b0 ∧ W.cell? ⟨w.heap.size + 1, 1, none⟩ = some b1 ∧ W.cell? ⟨w.heap.size + 1, 2, none⟩ = some b2 ∧ W.cell? ⟨w.heap.size + 1, 3, none⟩ = some b3 ∧ W.cell? ⟨w.heap.size + 1, 4, none⟩ = some b4 ∧ W.cell? ⟨w.heap.size + 1, 5, none⟩ = some b5 from fun W hbel => by
    have l2 := hbel
    rw [hW] at l2
    have l1 : Below (w.alloc (.cells #[a0, a1, a2, a3, a4, a5] 25)).heap.size (w.alloc (.cells #[a0, a1, a2, a3, a4, a5] 25)) W := ((Below.refl (w.alloc (.cells #[a0, a1, a2, a3, a4, a5] 25)).heap.size (w.alloc (.cells #[a0, a1, a2, a3, a4, a5] 25))).alloc (Nat.le_refl _) (.cells #[b0, b1, b2, b3, b4, b5] 25)).trans (l2.mono (by simp))
    have Ba := boxed (w := w) (W1 := (w.alloc (.cells #[a0, a1, a2, a3, a4, a5] 25))) rfl (wr := W) l1
    have Bb := boxed (w := (w.alloc (.cells #[a0, a1, a2, a3, a4, a5] 25))) (W1 := ((w.alloc (.cells #[a0, a1, a2, a3, a4, a5] 25)).alloc (.cells #[b0, b1, b2, b3, b4, b5] 25))) rfl (wr := W) l2
    simp only [World.size_alloc] at Bb
    exact ⟨Ba.1, Ba.2.1, Ba.2.2.1, Ba.2.2.2.1, Ba.2.2.2.2.1, Ba.2.2.2.2.2.1, Bb.1, Bb.2.1, Bb.2.2.1, Bb.2.2.2.1, Bb.2.2.2.2.1, Bb.2.2.2.2.2.1⟩)
  have LD := Lib.hid (show ∀ W : World, Below W0.heap.size W0 W → W.rangeAt (w.heap.size) 0 [a0, a1, a2, a3, a4, a5] ∧ W.rangeAt (w.heap.size + 1) 0 [b0, b1, b2, b3, b4, b5] from fun W hbel => by
    obtain ⟨a0, a1, a2, a3, a4, a5, b0, b1, b2, b3, b4, b5⟩ := KS.out W hbel
    exact ⟨range6 a0 a1 a2 a3 a4 a5, range6 b0 b1 b2 b3 b4 b5⟩)
  have HT := Lib.hid (show ∀ W : World, Below W0.heap.size W0 W → TabU W from fun W hbel => hT.below (PW.out W hbel))
  have La := Lib.hid (show ∀ W : World, Below W0.heap.size W0 W → Calls Tryd.prog 11 #[.agg #[a0, a1, a2, a3, a4, a5]] W fun e w' => e = .returned (.bool true) ∧ Below W.heap.size W w' from fun W hbel => by rw [← la]; exact light_any ta _ W (ia.keep (KeepC.below (PW.out W hbel))))
  have Lb := Lib.hid (show ∀ W : World, Below W0.heap.size W0 W → Calls Tryd.prog 11 #[.agg #[b0, b1, b2, b3, b4, b5]] W fun e w' => e = .returned (.bool false) ∧ Below W.heap.size W w' from fun W hbel => by rw [← lb]; exact light_any tb _ W (ib.keep (KeepC.below (PW.out W hbel))))
  have HW := Lib.hid hW
  clear hW hz hT ia ib la lb
  go_enter Tryd.func6, Tryd.ntmps6
  go_wp2_with fail
  rw [← HW.out]
  have P0 := Lib.hid (Below.refl W0.heap.size W0)
  refine (La.out _ P0.out).mono ?_
  rintro e w1 ⟨rfl, l⟩
  have P1 := Lib.hid (P0.out.trans (l.mono P0.out.size))
  clear l
  obtain ⟨ka0, ka1, ka2, ka3, ka4, ka5, kb0, kb1, kb2, kb3, kb4, kb5⟩ := KS.out _ P1.out
  go_wp2_with fail
  clear ka0 ka1 ka2 ka3 ka4 ka5 kb0 kb1 kb2 kb3 kb4 kb5
  refine (Lb.out _ P1.out).mono ?_
  rintro e w2 ⟨rfl, l⟩
  have P2 := Lib.hid (P1.out.trans (l.mono P1.out.size))
  clear l
  obtain ⟨ka0, ka1, ka2, ka3, ka4, ka5, kb0, kb1, kb2, kb3, kb4, kb5⟩ := KS.out _ P2.out
  go_wp2_with fail
  clear ka0 ka1 ka2 ka3 ka4 ka5 kb0 kb1 kb2 kb3 kb4 kb5
  refine (La.out _ P2.out).mono ?_
  rintro e w3 ⟨rfl, l⟩
  have P3 := Lib.hid (P2.out.trans (l.mono P2.out.size))
  clear l
  obtain ⟨ka0, ka1, ka2, ka3, ka4, ka5, kb0, kb1, kb2, kb3, kb4, kb5⟩ := KS.out _ P3.out
  go_wp2_with fail
  clear ka0 ka1 ka2 ka3 ka4 ka5 kb0 kb1 kb2 kb3 kb4 kb5
  refine (Lb.out _ P3.out).mono ?_
  rintro e w4 ⟨rfl, l⟩
  have P4 := Lib.hid (P3.out.trans (l.mono P3.out.size))
  clear l
  go_wp2_with fail
  go_ret
  exact ⟨rfl, PW.out _ P4.out⟩
set_option maxHeartbeats 8000000 in
set_option maxRecDepth 100000 in
theorem holds_l3 (ta tb : VT) (a0 a1 a2 a3 a4 a5 b0 b1 b2 b3 b4 b5 : Value) (w : World) (ia : InV w ta #[a0, a1, a2, a3, a4, a5]) (ib : InV w tb #[b0, b1, b2, b3, b4, b5]) (hT : TabU w) (la : lightB ta = true) (lb : lightB tb = true) (ma : Int) (ha : mayV ta 0 = ma) (z : ma ≠ 0) :
    Calls Tryd.prog 6 #[.agg #[a0, a1, a2, a3, a4, a5], .agg #[b0, b1, b2, b3, b4, b5]] w fun e w' => e = .returned (.bool true) ∧ Below w.heap.size w w' := by
  have q1 : (ma != 0) = true := by simpa using z
  obtain ⟨W0, hW⟩ : ∃ W0, W0 = ((w.alloc (.cells #[a0, a1, a2, a3, a4, a5] 25)).alloc (.cells #[b0, b1, b2, b3, b4, b5] 25)) := ⟨_, rfl⟩
  have hz : W0.heap.size = w.heap.size + 2 := by rw [hW]; simp
  have PW := Lib.hid (show ∀ W : World, Below W0.heap.size W0 W → Below w.heap.size w W from fun W hbel => by
    have l : Below w.heap.size w W0 := by rw [hW]; exact ((Below.refl _ _).alloc (Nat.le_refl _) _).alloc (by simp; try omega) _
    exact l.trans (hbel.mono (by omega)))
  have KS := Lib.hid (show ∀ W : World, Below W0.heap.size W0 W → W.cell? ⟨w.heap.size, 0, none⟩ = some a0 ∧ W.cell? ⟨w.heap.size, 1, none⟩ = some a1 ∧ W.cell? ⟨w.heap.size, 2, none⟩ = some a2 ∧ W.cell? ⟨w.heap.size, 3, none⟩ = some a3 ∧ W.cell? ⟨w.heap.size, 4, none⟩ = some a4 ∧ W.cell? ⟨w.heap.size, 5, none⟩ = some a5 ∧ W.cell? ⟨w.heap.size + 1, 0, none⟩ = some b0 ∧ W.cell? ⟨w.heap.size + 1, 1, none⟩ = some b1 ∧ W.cell? ⟨w.heap.size + 1, 2, none⟩ = some b2 ∧ W.cell? ⟨w.heap.size + 1, 3, none⟩ = some b3 ∧ W.cell? ⟨w.heap.size + 1, 4, none⟩ = some b4 ∧ W.cell? ⟨w.heap.size + 1, 5, none⟩ = some b5 from fun W hbel => by
    have l2 := hbel
    rw [hW] at l2
    have l1 : Below (w.alloc (.cells #[a0, a1, a2, a3, a4, a5] 25)).heap.size (w.alloc (.cells #[a0, a1, a2, a3, a4, a5] 25)) W := ((Below.refl (w.alloc (.cells #[a0, a1, a2, a3, a4, a5] 25)).heap.size (w.alloc (.cells #[a0, a1, a2, a3, a4, a5] 25))).alloc (Nat.le_refl _) (.cells #[b0, b1, b2, b3, b4, b5] 25)).trans (l2.mono (by simp))
    have Ba := boxed (w := w) (W1 := (w.alloc (.cells #[a0, a1, a2, a3, a4, a5] 25))) rfl (wr := W) l1
    have Bb := boxed (w := (w.alloc (.cells #[a0, a1, a2, a3, a4, a5] 25))) (W1 := ((w.alloc (.cells #[a0, a1, a2, a3, a4, a5] 25)).alloc (.cells #[b0, b1, b2, b3, b4, b5] 25))) rfl (wr := W) l2
    simp only [World.size_alloc] at Bb
    exact ⟨Ba.1, Ba.2.1, Ba.2.2.1, Ba.2.2.2.1, Ba.2.2.2.2.1, Ba.2.2.2.2.2.1, Bb.1, Bb.2.1, Bb.2.2.1, Bb.2.2.2.1, Bb.2.2.2.2.1, Bb.2.2.2.2.2.1⟩)
  have LD := Lib.hid (show ∀ W : World, Below W0.heap.size W0 W → W.rangeAt (w.heap.size) 0 [a0, a1, a2, a3, a4, a5] ∧ W.rangeAt (w.heap.size + 1) 0 [b0, b1, b2, b3, b4, b5] from fun W hbel => by
    obtain ⟨a0, a1, a2, a3, a4, a5, b0, b1, b2, b3, b4, b5⟩ := KS.out W hbel
    exact ⟨range6 a0 a1 a2 a3 a4 a5, range6 b0 b1 b2 b3 b4 b5⟩)
  have HT := Lib.hid (show ∀ W : World, Below W0.heap.size W0 W → TabU W from fun W hbel => hT.below (PW.out W hbel))
  have La := Lib.hid (show ∀ W : World, Below W0.heap.size W0 W → Calls Tryd.prog 11 #[.agg #[a0, a1, a2, a3, a4, a5]] W fun e w' => e = .returned (.bool true) ∧ Below W.heap.size W w' from fun W hbel => by rw [← la]; exact light_any ta _ W (ia.keep (KeepC.below (PW.out W hbel))))
  have Lb := Lib.hid (show ∀ W : World, Below W0.heap.size W0 W → Calls Tryd.prog 11 #[.agg #[b0, b1, b2, b3, b4, b5]] W fun e w' => e = .returned (.bool true) ∧ Below W.heap.size W w' from fun W hbel => by rw [← lb]; exact light_any tb _ W (ib.keep (KeepC.below (PW.out W hbel))))
  have Ma := Lib.hid (show ∀ W : World, Below W0.heap.size W0 W → Calls Tryd.prog 14 #[.agg #[a0, a1, a2, a3, a4, a5]] W fun e w' => e = .returned (.int .i64 ma) ∧ Below W.heap.size W w' from fun W hbel => by have q := refMay_any ta _ W (light_ok la).1 (ia.keep (KeepC.below (PW.out W hbel))); rw [ha] at q; exact q)
  have HW := Lib.hid hW
  clear hW hz hT ia ib la lb ha z
  go_enter Tryd.func6, Tryd.ntmps6
  go_wp2_with fail
  rw [← HW.out]
  have P0 := Lib.hid (Below.refl W0.heap.size W0)
  refine (La.out _ P0.out).mono ?_
  rintro e w1 ⟨rfl, l⟩
  have P1 := Lib.hid (P0.out.trans (l.mono P0.out.size))
  clear l
  obtain ⟨ka0, ka1, ka2, ka3, ka4, ka5, kb0, kb1, kb2, kb3, kb4, kb5⟩ := KS.out _ P1.out
  go_wp2_with fail
  clear ka0 ka1 ka2 ka3 ka4 ka5 kb0 kb1 kb2 kb3 kb4 kb5
  refine (Lb.out _ P1.out).mono ?_
  rintro e w2 ⟨rfl, l⟩
  have P2 := Lib.hid (P1.out.trans (l.mono P1.out.size))
  clear l
  obtain ⟨ka0, ka1, ka2, ka3, ka4, ka5, kb0, kb1, kb2, kb3, kb4, kb5⟩ := KS.out _ P2.out
  go_wp2_with fail
  clear ka0 ka1 ka2 ka3 ka4 ka5 kb0 kb1 kb2 kb3 kb4 kb5
  refine (Ma.out _ P2.out).mono ?_
  rintro e w3 ⟨rfl, l⟩
  have P3 := Lib.hid (P2.out.trans (l.mono P2.out.size))
  clear l
  obtain ⟨ka0, ka1, ka2, ka3, ka4, ka5, kb0, kb1, kb2, kb3, kb4, kb5⟩ := KS.out _ P3.out
  go_wp2_with fail
  clear ka0 ka1 ka2 ka3 ka4 ka5 kb0 kb1 kb2 kb3 kb4 kb5
  refine (La.out _ P3.out).mono ?_
  rintro e w4 ⟨rfl, l⟩
  have P4 := Lib.hid (P3.out.trans (l.mono P3.out.size))
  clear l
  obtain ⟨ka0, ka1, ka2, ka3, ka4, ka5, kb0, kb1, kb2, kb3, kb4, kb5⟩ := KS.out _ P4.out
  go_wp2_with fail
  clear ka0 ka1 ka2 ka3 ka4 ka5 kb0 kb1 kb2 kb3 kb4 kb5
  refine (Lb.out _ P4.out).mono ?_
  rintro e w5 ⟨rfl, l⟩
  have P5 := Lib.hid (P4.out.trans (l.mono P4.out.size))
  clear l
  go_wp2_with fail
  refine (awake_any _ (HT.out _ P5.out)).mono ?_
  rintro e wz ⟨rfl, l⟩
  have Pz := Lib.hid (PW.out _ (P5.out.trans (l.mono P5.out.size)))
  clear l
  go_wp2_with fail
  go_ret
  exact ⟨rfl, Pz.out⟩
set_option maxHeartbeats 8000000 in
set_option maxRecDepth 100000 in
theorem holds_l4 (ta tb : VT) (a0 a1 a2 a3 a4 a5 b0 b1 b2 b3 b4 b5 : Value) (w : World) (ia : InV w ta #[a0, a1, a2, a3, a4, a5]) (ib : InV w tb #[b0, b1, b2, b3, b4, b5]) (hT : TabU w) (la : lightB ta = true) (lb : lightB tb = true) (mb : Int) (ha : mayV ta 0 = 0) (hb : mayV tb 0 = mb) (z : mb ≠ 0) :
    Calls Tryd.prog 6 #[.agg #[a0, a1, a2, a3, a4, a5], .agg #[b0, b1, b2, b3, b4, b5]] w fun e w' => e = .returned (.bool true) ∧ Below w.heap.size w w' := by
  have q1 : (mb != 0) = true := by simpa using z
  obtain ⟨W0, hW⟩ : ∃ W0, W0 = ((w.alloc (.cells #[a0, a1, a2, a3, a4, a5] 25)).alloc (.cells #[b0, b1, b2, b3, b4, b5] 25)) := ⟨_, rfl⟩
  have hz : W0.heap.size = w.heap.size + 2 := by rw [hW]; simp
  have PW := Lib.hid (show ∀ W : World, Below W0.heap.size W0 W → Below w.heap.size w W from fun W hbel => by
    have l : Below w.heap.size w W0 := by rw [hW]; exact ((Below.refl _ _).alloc (Nat.le_refl _) _).alloc (by simp; try omega) _
    exact l.trans (hbel.mono (by omega)))
  have KS := Lib.hid (show ∀ W : World, Below W0.heap.size W0 W → W.cell? ⟨w.heap.size, 0, none⟩ = some a0 ∧ W.cell? ⟨w.heap.size, 1, none⟩ = some a1 ∧ W.cell? ⟨w.heap.size, 2, none⟩ = some a2 ∧ W.cell? ⟨w.heap.size, 3, none⟩ = some a3 ∧ W.cell? ⟨w.heap.size, 4, none⟩ = some a4 ∧ W.cell? ⟨w.heap.size, 5, none⟩ = some a5 ∧ W.cell? ⟨w.heap.size + 1, 0, none⟩ = some b0 ∧ W.cell? ⟨w.heap.size + 1, 1, none⟩ = some b1 ∧ W.cell? ⟨w.heap.size + 1, 2, none⟩ = some b2 ∧ W.cell? ⟨w.heap.size + 1, 3, none⟩ = some b3 ∧ W.cell? ⟨w.heap.size + 1, 4, none⟩ = some b4 ∧ W.cell? ⟨w.heap.size + 1, 5, none⟩ = some b5 from fun W hbel => by
    have l2 := hbel
    rw [hW] at l2
    have l1 : Below (w.alloc (.cells #[a0, a1, a2, a3, a4, a5] 25)).heap.size (w.alloc (.cells #[a0, a1, a2, a3, a4, a5] 25)) W := ((Below.refl (w.alloc (.cells #[a0, a1, a2, a3, a4, a5] 25)).heap.size (w.alloc (.cells #[a0, a1, a2, a3, a4, a5] 25))).alloc (Nat.le_refl _) (.cells #[b0, b1, b2, b3, b4, b5] 25)).trans (l2.mono (by simp))
    have Ba := boxed (w := w) (W1 := (w.alloc (.cells #[a0, a1, a2, a3, a4, a5] 25))) rfl (wr := W) l1
    have Bb := boxed (w := (w.alloc (.cells #[a0, a1, a2, a3, a4, a5] 25))) (W1 := ((w.alloc (.cells #[a0, a1, a2, a3, a4, a5] 25)).alloc (.cells #[b0, b1, b2, b3, b4, b5] 25))) rfl (wr := W) l2
    simp only [World.size_alloc] at Bb
    exact ⟨Ba.1, Ba.2.1, Ba.2.2.1, Ba.2.2.2.1, Ba.2.2.2.2.1, Ba.2.2.2.2.2.1, Bb.1, Bb.2.1, Bb.2.2.1, Bb.2.2.2.1, Bb.2.2.2.2.1, Bb.2.2.2.2.2.1⟩)
  have LD := Lib.hid (show ∀ W : World, Below W0.heap.size W0 W → W.rangeAt (w.heap.size) 0 [a0, a1, a2, a3, a4, a5] ∧ W.rangeAt (w.heap.size + 1) 0 [b0, b1, b2, b3, b4, b5] from fun W hbel => by
    obtain ⟨a0, a1, a2, a3, a4, a5, b0, b1, b2, b3, b4, b5⟩ := KS.out W hbel
    exact ⟨range6 a0 a1 a2 a3 a4 a5, range6 b0 b1 b2 b3 b4 b5⟩)
  have HT := Lib.hid (show ∀ W : World, Below W0.heap.size W0 W → TabU W from fun W hbel => hT.below (PW.out W hbel))
  have La := Lib.hid (show ∀ W : World, Below W0.heap.size W0 W → Calls Tryd.prog 11 #[.agg #[a0, a1, a2, a3, a4, a5]] W fun e w' => e = .returned (.bool true) ∧ Below W.heap.size W w' from fun W hbel => by rw [← la]; exact light_any ta _ W (ia.keep (KeepC.below (PW.out W hbel))))
  have Lb := Lib.hid (show ∀ W : World, Below W0.heap.size W0 W → Calls Tryd.prog 11 #[.agg #[b0, b1, b2, b3, b4, b5]] W fun e w' => e = .returned (.bool true) ∧ Below W.heap.size W w' from fun W hbel => by rw [← lb]; exact light_any tb _ W (ib.keep (KeepC.below (PW.out W hbel))))
  have Ma := Lib.hid (show ∀ W : World, Below W0.heap.size W0 W → Calls Tryd.prog 14 #[.agg #[a0, a1, a2, a3, a4, a5]] W fun e w' => e = .returned (.int .i64 0) ∧ Below W.heap.size W w' from fun W hbel => by have q := refMay_any ta _ W (light_ok la).1 (ia.keep (KeepC.below (PW.out W hbel))); rw [ha] at q; exact q)
  have Mb := Lib.hid (show ∀ W : World, Below W0.heap.size W0 W → Calls Tryd.prog 14 #[.agg #[b0, b1, b2, b3, b4, b5]] W fun e w' => e = .returned (.int .i64 mb) ∧ Below W.heap.size W w' from fun W hbel => by have q := refMay_any tb _ W (light_ok lb).1 (ib.keep (KeepC.below (PW.out W hbel))); rw [hb] at q; exact q)
  have HW := Lib.hid hW
  clear hW hz hT ia ib la lb ha hb z
  go_enter Tryd.func6, Tryd.ntmps6
  go_wp2_with fail
  rw [← HW.out]
  have P0 := Lib.hid (Below.refl W0.heap.size W0)
  refine (La.out _ P0.out).mono ?_
  rintro e w1 ⟨rfl, l⟩
  have P1 := Lib.hid (P0.out.trans (l.mono P0.out.size))
  clear l
  obtain ⟨ka0, ka1, ka2, ka3, ka4, ka5, kb0, kb1, kb2, kb3, kb4, kb5⟩ := KS.out _ P1.out
  go_wp2_with fail
  clear ka0 ka1 ka2 ka3 ka4 ka5 kb0 kb1 kb2 kb3 kb4 kb5
  refine (Lb.out _ P1.out).mono ?_
  rintro e w2 ⟨rfl, l⟩
  have P2 := Lib.hid (P1.out.trans (l.mono P1.out.size))
  clear l
  obtain ⟨ka0, ka1, ka2, ka3, ka4, ka5, kb0, kb1, kb2, kb3, kb4, kb5⟩ := KS.out _ P2.out
  go_wp2_with fail
  clear ka0 ka1 ka2 ka3 ka4 ka5 kb0 kb1 kb2 kb3 kb4 kb5
  refine (Ma.out _ P2.out).mono ?_
  rintro e w3 ⟨rfl, l⟩
  have P3 := Lib.hid (P2.out.trans (l.mono P2.out.size))
  clear l
  obtain ⟨ka0, ka1, ka2, ka3, ka4, ka5, kb0, kb1, kb2, kb3, kb4, kb5⟩ := KS.out _ P3.out
  go_wp2_with fail
  clear ka0 ka1 ka2 ka3 ka4 ka5 kb0 kb1 kb2 kb3 kb4 kb5
  refine (Mb.out _ P3.out).mono ?_
  rintro e w4 ⟨rfl, l⟩
  have P4 := Lib.hid (P3.out.trans (l.mono P3.out.size))
  clear l
  obtain ⟨ka0, ka1, ka2, ka3, ka4, ka5, kb0, kb1, kb2, kb3, kb4, kb5⟩ := KS.out _ P4.out
  go_wp2_with fail
  clear ka0 ka1 ka2 ka3 ka4 ka5 kb0 kb1 kb2 kb3 kb4 kb5
  refine (La.out _ P4.out).mono ?_
  rintro e w5 ⟨rfl, l⟩
  have P5 := Lib.hid (P4.out.trans (l.mono P4.out.size))
  clear l
  obtain ⟨ka0, ka1, ka2, ka3, ka4, ka5, kb0, kb1, kb2, kb3, kb4, kb5⟩ := KS.out _ P5.out
  go_wp2_with fail
  clear ka0 ka1 ka2 ka3 ka4 ka5 kb0 kb1 kb2 kb3 kb4 kb5
  refine (Lb.out _ P5.out).mono ?_
  rintro e w6 ⟨rfl, l⟩
  have P6 := Lib.hid (P5.out.trans (l.mono P5.out.size))
  clear l
  go_wp2_with fail
  refine (awake_any _ (HT.out _ P6.out)).mono ?_
  rintro e wz ⟨rfl, l⟩
  have Pz := Lib.hid (PW.out _ (P6.out.trans (l.mono P6.out.size)))
  clear l
  go_wp2_with fail
  go_ret
  exact ⟨rfl, Pz.out⟩
end Go.Proofs.YtpmhefdalhohdaaDoor
