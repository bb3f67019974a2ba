/- OrderChain: the walk, put together. -/
import Derived.Test.YtpmhefdalhohdaaDoorOChain
import Derived.Test.YtpmhefdalhohdaaDoorOChainB
namespace Go.Proofs.YtpmhefdalhohdaaDoor
open Go.RowKit
set_option linter.unusedVariables false

set_option maxHeartbeats 4000000 in
set_option maxRecDepth 100000 in
theorem chain_l1 (ta tb tc : VT) (a0 a1 a2 a3 a4 a5 b0 b1 b2 b3 b4 b5 c0 c1 c2 c3 c4 c5 : Value) (w : World) (ia : InV w ta #[a0, a1, a2, a3, a4, a5]) (ib : InV w tb #[b0, b1, b2, b3, b4, b5]) (ic : InV w tc #[c0, c1, c2, c3, c4, c5]) (la : lightB ta = false) :
    Calls Tryd.prog 8 #[.agg #[a0, a1, a2, a3, a4, a5], .agg #[b0, b1, b2, b3, b4, b5], .agg #[c0, c1, c2, c3, c4, c5]] w fun e w' => e = .returned (.bool true) ∧ Below w.heap.size w w' := by
  obtain ⟨W0, hW⟩ : ∃ W0, W0 = (((w.alloc (.cells #[a0, a1, a2, a3, a4, a5] 25)).alloc (.cells #[b0, b1, b2, b3, b4, b5] 25)).alloc (.cells #[c0, c1, c2, c3, c4, c5] 25)) := ⟨_, rfl⟩
  have hz : W0.heap.size = w.heap.size + 3 := by rw [hW]; simp
  have PW := Lib.hid (show ∀ W : World, Below W0.heap.size W0 W → Below w.heap.size w W from fun W hbel => by
    have l : Below w.heap.size w W0 := by rw [hW]; exact ((((Below.refl _ _).alloc (Nat.le_refl _) _).alloc (by simp; try omega) _).alloc (by simp; try omega) _)
    exact l.trans (hbel.mono (by omega)))
  have CE := Lib.hid (show ∀ W : World, Below W0.heap.size W0 W → W.cell? ⟨w.heap.size, 0, none⟩ = some a0 ∧ W.cell? ⟨w.heap.size, 1, none⟩ = some a1 ∧ W.cell? ⟨w.heap.size, 2, none⟩ = some a2 ∧ W.cell? ⟨w.heap.size, 3, none⟩ = some a3 ∧ W.cell? ⟨w.heap.size, 4, none⟩ = some a4 ∧ W.cell? ⟨w.heap.size, 5, none⟩ = some a5 ∧ W.cell? ⟨w.heap.size + 1, 0, none⟩ = some b0 ∧ W.cell? ⟨w.heap.size + 1, 1, none⟩ = some b1 ∧ W.cell? ⟨w.heap.size + 1, 2, none⟩ = some b2 ∧ W.cell? ⟨w.heap.size + 1, 3, none⟩ = some b3 ∧ W.cell? ⟨w.heap.size + 1, 4, none⟩ = some b4 ∧ W.cell? ⟨w.heap.size + 1, 5, none⟩ = some b5 ∧ W.cell? ⟨w.heap.size + 2, 0, none⟩ = some c0 ∧ W.cell? ⟨w.heap.size + 2, 1, none⟩ = some c1 ∧ W.cell? ⟨w.heap.size + 2, 2, none⟩ = some c2 ∧ W.cell? ⟨w.heap.size + 2, 3, none⟩ = some c3 ∧ W.cell? ⟨w.heap.size + 2, 4, none⟩ = some c4 ∧ W.cell? ⟨w.heap.size + 2, 5, none⟩ = some c5 from fun W hbel => by
    have l3 := hbel
    rw [hW] at l3
    have e2 : Below ((w.alloc (.cells #[a0, a1, a2, a3, a4, a5] 25)).alloc (.cells #[b0, b1, b2, b3, b4, b5] 25)).heap.size ((w.alloc (.cells #[a0, a1, a2, a3, a4, a5] 25)).alloc (.cells #[b0, b1, b2, b3, b4, b5] 25)) W := ((Below.refl ((w.alloc (.cells #[a0, a1, a2, a3, a4, a5] 25)).alloc (.cells #[b0, b1, b2, b3, b4, b5] 25)).heap.size ((w.alloc (.cells #[a0, a1, a2, a3, a4, a5] 25)).alloc (.cells #[b0, b1, b2, b3, b4, b5] 25))).alloc (Nat.le_refl _) (.cells #[c0, c1, c2, c3, c4, c5] 25)).trans (l3.mono (by simp))
    have e1 : Below (w.alloc (.cells #[a0, a1, a2, a3, a4, a5] 25)).heap.size (w.alloc (.cells #[a0, a1, a2, a3, a4, a5] 25)) W := ((Below.refl (w.alloc (.cells #[a0, a1, a2, a3, a4, a5] 25)).heap.size (w.alloc (.cells #[a0, a1, a2, a3, a4, a5] 25))).alloc (Nat.le_refl _) (.cells #[b0, b1, b2, b3, b4, b5] 25)).trans (e2.mono (by simp))
    have Ba := boxed (w := w) (W1 := (w.alloc (.cells #[a0, a1, a2, a3, a4, a5] 25))) rfl (wr := W) e1
    have Bb := boxed (w := (w.alloc (.cells #[a0, a1, a2, a3, a4, a5] 25))) (W1 := ((w.alloc (.cells #[a0, a1, a2, a3, a4, a5] 25)).alloc (.cells #[b0, b1, b2, b3, b4, b5] 25))) rfl (wr := W) e2
    have Bc := boxed (w := ((w.alloc (.cells #[a0, a1, a2, a3, a4, a5] 25)).alloc (.cells #[b0, b1, b2, b3, b4, b5] 25))) (W1 := (((w.alloc (.cells #[a0, a1, a2, a3, a4, a5] 25)).alloc (.cells #[b0, b1, b2, b3, b4, b5] 25)).alloc (.cells #[c0, c1, c2, c3, c4, c5] 25))) rfl (wr := W) l3
    simp only [World.size_alloc] at Bb Bc
    exact ⟨Ba.1, Ba.2.1, Ba.2.2.1, Ba.2.2.2.1, Ba.2.2.2.2.1, Ba.2.2.2.2.2.1, Bb.1, Bb.2.1, Bb.2.2.1, Bb.2.2.2.1, Bb.2.2.2.2.1, Bb.2.2.2.2.2.1, Bc.1, Bc.2.1, Bc.2.2.1, Bc.2.2.2.1, Bc.2.2.2.2.1, Bc.2.2.2.2.2.1⟩)
  have La := Lib.hid (show ∀ W : World, Below W0.heap.size W0 W → Calls Tryd.prog 11 #[.agg #[a0, a1, a2, a3, a4, a5]] W fun e w' => e = .returned (.bool false) ∧ Below W.heap.size W w' from fun W hbel => by rw [← la]; exact light_any ta _ W (ia.keep (KeepC.below (PW.out W hbel))))
  have HW := Lib.hid hW
  clear hW hz ia ib ic la
  go_enter Tryd.func8, Tryd.ntmps8
  go_wp2_with fail
  rw [← HW.out]
  refine (La.out _ (Below.refl _ _)).mono ?_
  rintro e w1 ⟨rfl, l⟩
  have P1 := Lib.hid l
  clear l
  go_wp2_with fail
  go_ret
  exact ⟨rfl, PW.out _ P1.out⟩
set_option maxHeartbeats 4000000 in
set_option maxRecDepth 100000 in
theorem chain_l2 (ta tb tc : VT) (a0 a1 a2 a3 a4 a5 b0 b1 b2 b3 b4 b5 c0 c1 c2 c3 c4 c5 : Value) (w : World) (ia : InV w ta #[a0, a1, a2, a3, a4, a5]) (ib : InV w tb #[b0, b1, b2, b3, b4, b5]) (ic : InV w tc #[c0, c1, c2, c3, c4, c5]) (la : lightB ta = true) (lb : lightB tb = false) :
    Calls Tryd.prog 8 #[.agg #[a0, a1, a2, a3, a4, a5], .agg #[b0, b1, b2, b3, b4, b5], .agg #[c0, c1, c2, c3, c4, c5]] w fun e w' => e = .returned (.bool true) ∧ Below w.heap.size w w' := by
  obtain ⟨W0, hW⟩ : ∃ W0, W0 = (((w.alloc (.cells #[a0, a1, a2, a3, a4, a5] 25)).alloc (.cells #[b0, b1, b2, b3, b4, b5] 25)).alloc (.cells #[c0, c1, c2, c3, c4, c5] 25)) := ⟨_, rfl⟩
  have hz : W0.heap.size = w.heap.size + 3 := by rw [hW]; simp
  have PW := Lib.hid (show ∀ W : World, Below W0.heap.size W0 W → Below w.heap.size w W from fun W hbel => by
    have l : Below w.heap.size w W0 := by rw [hW]; exact ((((Below.refl _ _).alloc (Nat.le_refl _) _).alloc (by simp; try omega) _).alloc (by simp; try omega) _)
    exact l.trans (hbel.mono (by omega)))
  have CE := Lib.hid (show ∀ W : World, Below W0.heap.size W0 W → W.cell? ⟨w.heap.size, 0, none⟩ = some a0 ∧ W.cell? ⟨w.heap.size, 1, none⟩ = some a1 ∧ W.cell? ⟨w.heap.size, 2, none⟩ = some a2 ∧ W.cell? ⟨w.heap.size, 3, none⟩ = some a3 ∧ W.cell? ⟨w.heap.size, 4, none⟩ = some a4 ∧ W.cell? ⟨w.heap.size, 5, none⟩ = some a5 ∧ W.cell? ⟨w.heap.size + 1, 0, none⟩ = some b0 ∧ W.cell? ⟨w.heap.size + 1, 1, none⟩ = some b1 ∧ W.cell? ⟨w.heap.size + 1, 2, none⟩ = some b2 ∧ W.cell? ⟨w.heap.size + 1, 3, none⟩ = some b3 ∧ W.cell? ⟨w.heap.size + 1, 4, none⟩ = some b4 ∧ W.cell? ⟨w.heap.size + 1, 5, none⟩ = some b5 ∧ W.cell? ⟨w.heap.size + 2, 0, none⟩ = some c0 ∧ W.cell? ⟨w.heap.size + 2, 1, none⟩ = some c1 ∧ W.cell? ⟨w.heap.size + 2, 2, none⟩ = some c2 ∧ W.cell? ⟨w.heap.size + 2, 3, none⟩ = some c3 ∧ W.cell? ⟨w.heap.size + 2, 4, none⟩ = some c4 ∧ W.cell? ⟨w.heap.size + 2, 5, none⟩ = some c5 from fun W hbel => by
    have l3 := hbel
    rw [hW] at l3
    have e2 : Below ((w.alloc (.cells #[a0, a1, a2, a3, a4, a5] 25)).alloc (.cells #[b0, b1, b2, b3, b4, b5] 25)).heap.size ((w.alloc (.cells #[a0, a1, a2, a3, a4, a5] 25)).alloc (.cells #[b0, b1, b2, b3, b4, b5] 25)) W := ((Below.refl ((w.alloc (.cells #[a0, a1, a2, a3, a4, a5] 25)).alloc (.cells #[b0, b1, b2, b3, b4, b5] 25)).heap.size ((w.alloc (.cells #[a0, a1, a2, a3, a4, a5] 25)).alloc (.cells #[b0, b1, b2, b3, b4, b5] 25))).alloc (Nat.le_refl _) (.cells #[c0, c1, c2, c3, c4, c5] 25)).trans (l3.mono (by simp))
    have e1 : Below (w.alloc (.cells #[a0, a1, a2, a3, a4, a5] 25)).heap.size (w.alloc (.cells #[a0, a1, a2, a3, a4, a5] 25)) W := ((Below.refl (w.alloc (.cells #[a0, a1, a2, a3, a4, a5] 25)).heap.size (w.alloc (.cells #[a0, a1, a2, a3, a4, a5] 25))).alloc (Nat.le_refl _) (.cells #[b0, b1, b2, b3, b4, b5] 25)).trans (e2.mono (by simp))
    have Ba := boxed (w := w) (W1 := (w.alloc (.cells #[a0, a1, a2, a3, a4, a5] 25))) rfl (wr := W) e1
    have Bb := boxed (w := (w.alloc (.cells #[a0, a1, a2, a3, a4, a5] 25))) (W1 := ((w.alloc (.cells #[a0, a1, a2, a3, a4, a5] 25)).alloc (.cells #[b0, b1, b2, b3, b4, b5] 25))) rfl (wr := W) e2
    have Bc := boxed (w := ((w.alloc (.cells #[a0, a1, a2, a3, a4, a5] 25)).alloc (.cells #[b0, b1, b2, b3, b4, b5] 25))) (W1 := (((w.alloc (.cells #[a0, a1, a2, a3, a4, a5] 25)).alloc (.cells #[b0, b1, b2, b3, b4, b5] 25)).alloc (.cells #[c0, c1, c2, c3, c4, c5] 25))) rfl (wr := W) l3
    simp only [World.size_alloc] at Bb Bc
    exact ⟨Ba.1, Ba.2.1, Ba.2.2.1, Ba.2.2.2.1, Ba.2.2.2.2.1, Ba.2.2.2.2.2.1, Bb.1, Bb.2.1, Bb.2.2.1, Bb.2.2.2.1, Bb.2.2.2.2.1, Bb.2.2.2.2.2.1, Bc.1, Bc.2.1, Bc.2.2.1, Bc.2.2.2.1, Bc.2.2.2.2.1, Bc.2.2.2.2.2.1⟩)
  have La := Lib.hid (show ∀ W : World, Below W0.heap.size W0 W → Calls Tryd.prog 11 #[.agg #[a0, a1, a2, a3, a4, a5]] W fun e w' => e = .returned (.bool true) ∧ Below W.heap.size W w' from fun W hbel => by rw [← la]; exact light_any ta _ W (ia.keep (KeepC.below (PW.out W hbel))))
  have Lb := Lib.hid (show ∀ W : World, Below W0.heap.size W0 W → Calls Tryd.prog 11 #[.agg #[b0, b1, b2, b3, b4, b5]] W fun e w' => e = .returned (.bool false) ∧ Below W.heap.size W w' from fun W hbel => by rw [← lb]; exact light_any tb _ W (ib.keep (KeepC.below (PW.out W hbel))))
  have HW := Lib.hid hW
  clear hW hz ia ib ic la lb
  go_enter Tryd.func8, Tryd.ntmps8
  go_wp2_with fail
  rw [← HW.out]
  refine (La.out _ (Below.refl _ _)).mono ?_
  rintro e w1 ⟨rfl, l⟩
  have P1 := Lib.hid l
  clear l
  obtain ⟨ka0, ka1, ka2, ka3, ka4, ka5, kb0, kb1, kb2, kb3, kb4, kb5, kc0, kc1, kc2, kc3, kc4, kc5⟩ := CE.out _ P1.out
  go_wp2_with fail
  clear ka0 ka1 ka2 ka3 ka4 ka5 kb0 kb1 kb2 kb3 kb4 kb5 kc0 kc1 kc2 kc3 kc4 kc5
  refine (Lb.out _ P1.out).mono ?_
  rintro e w2 ⟨rfl, l⟩
  have P2 := Lib.hid (P1.out.trans (l.mono P1.out.size))
  clear l
  go_wp2_with fail
  go_ret
  exact ⟨rfl, PW.out _ P2.out⟩
set_option maxHeartbeats 4000000 in
set_option maxRecDepth 100000 in
theorem chain_l3 (ta tb tc : VT) (a0 a1 a2 a3 a4 a5 b0 b1 b2 b3 b4 b5 c0 c1 c2 c3 c4 c5 : Value) (w : World) (ia : InV w ta #[a0, a1, a2, a3, a4, a5]) (ib : InV w tb #[b0, b1, b2, b3, b4, b5]) (ic : InV w tc #[c0, c1, c2, c3, c4, c5]) (la : lightB ta = true) (lb : lightB tb = true) (lc : lightB tc = false) :
    Calls Tryd.prog 8 #[.agg #[a0, a1, a2, a3, a4, a5], .agg #[b0, b1, b2, b3, b4, b5], .agg #[c0, c1, c2, c3, c4, c5]] w fun e w' => e = .returned (.bool true) ∧ Below w.heap.size w w' := by
  obtain ⟨W0, hW⟩ : ∃ W0, W0 = (((w.alloc (.cells #[a0, a1, a2, a3, a4, a5] 25)).alloc (.cells #[b0, b1, b2, b3, b4, b5] 25)).alloc (.cells #[c0, c1, c2, c3, c4, c5] 25)) := ⟨_, rfl⟩
  have hz : W0.heap.size = w.heap.size + 3 := by rw [hW]; simp
  have PW := Lib.hid (show ∀ W : World, Below W0.heap.size W0 W → Below w.heap.size w W from fun W hbel => by
    have l : Below w.heap.size w W0 := by rw [hW]; exact ((((Below.refl _ _).alloc (Nat.le_refl _) _).alloc (by simp; try omega) _).alloc (by simp; try omega) _)
    exact l.trans (hbel.mono (by omega)))
  have CE := Lib.hid (show ∀ W : World, Below W0.heap.size W0 W → W.cell? ⟨w.heap.size, 0, none⟩ = some a0 ∧ W.cell? ⟨w.heap.size, 1, none⟩ = some a1 ∧ W.cell? ⟨w.heap.size, 2, none⟩ = some a2 ∧ W.cell? ⟨w.heap.size, 3, none⟩ = some a3 ∧ W.cell? ⟨w.heap.size, 4, none⟩ = some a4 ∧ W.cell? ⟨w.heap.size, 5, none⟩ = some a5 ∧ W.cell? ⟨w.heap.size + 1, 0, none⟩ = some b0 ∧ W.cell? ⟨w.heap.size + 1, 1, none⟩ = some b1 ∧ W.cell? ⟨w.heap.size + 1, 2, none⟩ = some b2 ∧ W.cell? ⟨w.heap.size + 1, 3, none⟩ = some b3 ∧ W.cell? ⟨w.heap.size + 1, 4, none⟩ = some b4 ∧ W.cell? ⟨w.heap.size + 1, 5, none⟩ = some b5 ∧ W.cell? ⟨w.heap.size + 2, 0, none⟩ = some c0 ∧ W.cell? ⟨w.heap.size + 2, 1, none⟩ = some c1 ∧ W.cell? ⟨w.heap.size + 2, 2, none⟩ = some c2 ∧ W.cell? ⟨w.heap.size + 2, 3, none⟩ = some c3 ∧ W.cell? ⟨w.heap.size + 2, 4, none⟩ = some c4 ∧ W.cell? ⟨w.heap.size + 2, 5, none⟩ = some c5 from fun W hbel => by
    have l3 := hbel
    rw [hW] at l3
    have e2 : Below ((w.alloc (.cells #[a0, a1, a2, a3, a4, a5] 25)).alloc (.cells #[b0, b1, b2, b3, b4, b5] 25)).heap.size ((w.alloc (.cells #[a0, a1, a2, a3, a4, a5] 25)).alloc (.cells #[b0, b1, b2, b3, b4, b5] 25)) W := ((Below.refl ((w.alloc (.cells #[a0, a1, a2, a3, a4, a5] 25)).alloc (.cells #[b0, b1, b2, b3, b4, b5] 25)).heap.size ((w.alloc (.cells #[a0, a1, a2, a3, a4, a5] 25)).alloc (.cells #[b0, b1, b2, b3, b4, b5] 25))).alloc (Nat.le_refl _) (.cells #[c0, c1, c2, c3, c4, c5] 25)).trans (l3.mono (by simp))
    have e1 : Below (w.alloc (.cells #[a0, a1, a2, a3, a4, a5] 25)).heap.size (w.alloc (.cells #[a0, a1, a2, a3, a4, a5] 25)) W := ((Below.refl (w.alloc (.cells #[a0, a1, a2, a3, a4, a5] 25)).heap.size (w.alloc (.cells #[a0, a1, a2, a3, a4, a5] 25))).alloc (Nat.le_refl _) (.cells #[b0, b1, b2, b3, b4, b5] 25)).trans (e2.mono (by simp))
    have Ba := boxed (w := w) (W1 := (w.alloc (.cells #[a0, a1, a2, a3, a4, a5] 25))) rfl (wr := W) e1
    have Bb := boxed (w := (w.alloc (.cells #[a0, a1, a2, a3, a4, a5] 25))) (W1 := ((w.alloc (.cells #[a0, a1, a2, a3, a4, a5] 25)).alloc (.cells #[b0, b1, b2, b3, b4, b5] 25))) rfl (wr := W) e2
    have Bc := boxed (w := ((w.alloc (.cells #[a0, a1, a2, a3, a4, a5] 25)).alloc (.cells #[b0, b1, b2, b3, b4, b5] 25))) (W1 := (((w.alloc (.cells #[a0, a1, a2, a3, a4, a5] 25)).alloc (.cells #[b0, b1, b2, b3, b4, b5] 25)).alloc (.cells #[c0, c1, c2, c3, c4, c5] 25))) rfl (wr := W) l3
    simp only [World.size_alloc] at Bb Bc
    exact ⟨Ba.1, Ba.2.1, Ba.2.2.1, Ba.2.2.2.1, Ba.2.2.2.2.1, Ba.2.2.2.2.2.1, Bb.1, Bb.2.1, Bb.2.2.1, Bb.2.2.2.1, Bb.2.2.2.2.1, Bb.2.2.2.2.2.1, Bc.1, Bc.2.1, Bc.2.2.1, Bc.2.2.2.1, Bc.2.2.2.2.1, Bc.2.2.2.2.2.1⟩)
  have La := Lib.hid (show ∀ W : World, Below W0.heap.size W0 W → Calls Tryd.prog 11 #[.agg #[a0, a1, a2, a3, a4, a5]] W fun e w' => e = .returned (.bool true) ∧ Below W.heap.size W w' from fun W hbel => by rw [← la]; exact light_any ta _ W (ia.keep (KeepC.below (PW.out W hbel))))
  have Lb := Lib.hid (show ∀ W : World, Below W0.heap.size W0 W → Calls Tryd.prog 11 #[.agg #[b0, b1, b2, b3, b4, b5]] W fun e w' => e = .returned (.bool true) ∧ Below W.heap.size W w' from fun W hbel => by rw [← lb]; exact light_any tb _ W (ib.keep (KeepC.below (PW.out W hbel))))
  have Lc := Lib.hid (show ∀ W : World, Below W0.heap.size W0 W → Calls Tryd.prog 11 #[.agg #[c0, c1, c2, c3, c4, c5]] W fun e w' => e = .returned (.bool false) ∧ Below W.heap.size W w' from fun W hbel => by rw [← lc]; exact light_any tc _ W (ic.keep (KeepC.below (PW.out W hbel))))
  have HW := Lib.hid hW
  clear hW hz ia ib ic la lb lc
  go_enter Tryd.func8, Tryd.ntmps8
  go_wp2_with fail
  rw [← HW.out]
  refine (La.out _ (Below.refl _ _)).mono ?_
  rintro e w1 ⟨rfl, l⟩
  have P1 := Lib.hid l
  clear l
  obtain ⟨ka0, ka1, ka2, ka3, ka4, ka5, kb0, kb1, kb2, kb3, kb4, kb5, kc0, kc1, kc2, kc3, kc4, kc5⟩ := CE.out _ P1.out
  go_wp2_with fail
  clear ka0 ka1 ka2 ka3 ka4 ka5 kb0 kb1 kb2 kb3 kb4 kb5 kc0 kc1 kc2 kc3 kc4 kc5
  refine (Lb.out _ P1.out).mono ?_
  rintro e w2 ⟨rfl, l⟩
  have P2 := Lib.hid (P1.out.trans (l.mono P1.out.size))
  clear l
  obtain ⟨ka0, ka1, ka2, ka3, ka4, ka5, kb0, kb1, kb2, kb3, kb4, kb5, kc0, kc1, kc2, kc3, kc4, kc5⟩ := CE.out _ P2.out
  go_wp2_with fail
  clear ka0 ka1 ka2 ka3 ka4 ka5 kb0 kb1 kb2 kb3 kb4 kb5 kc0 kc1 kc2 kc3 kc4 kc5
  refine (Lc.out _ P2.out).mono ?_
  rintro e w3 ⟨rfl, l⟩
  have P3 := Lib.hid (P2.out.trans (l.mono P2.out.size))
  clear l
  go_wp2_with fail
  go_ret
  exact ⟨rfl, PW.out _ P3.out⟩
theorem cmpV_vals (t u : VT) (ht : Fit t) (hu : Fit u) : -1 ≤ cmpV t u ∧ cmpV t u ≤ 1 := by
  rw [cmpV_key t u ht hu]
  rcases cmpS_vals (keyV t) (keyV u) with h | h | h <;> rw [h] <;> omega
theorem orderChain_walk (ta tb tc : VT) (ca cb cc : Array Value) (w : World) (ia : InV w ta ca) (ib : InV w tb cb) (ic : InV w tc cc) (hT : TabU w) :
    Calls Tryd.prog 8 #[.agg ca, .agg cb, .agg cc] w fun e w' => e = .returned (.bool true) ∧ Below w.heap.size w w' := by
  obtain ⟨a0, a1, a2, a3, a4, a5, rfl⟩ := inv_lit ia
  obtain ⟨b0, b1, b2, b3, b4, b5, rfl⟩ := inv_lit ib
  obtain ⟨c0, c1, c2, c3, c4, c5, rfl⟩ := inv_lit ic
  cases la : lightB ta
  · exact chain_l1 ta tb tc _ _ _ _ _ _ _ _ _ _ _ _ _ _ _ _ _ _ w ia ib ic la
  cases lb : lightB tb
  · exact chain_l2 ta tb tc _ _ _ _ _ _ _ _ _ _ _ _ _ _ _ _ _ _ w ia ib ic la lb
  cases lc : lightB tc
  · exact chain_l3 ta tb tc _ _ _ _ _ _ _ _ _ _ _ _ _ _ _ _ _ _ w ia ib ic la lb lc
  have sa := (light_ok la).1.small
  have sb := (light_ok lb).1.small
  have sc := (light_ok lc).1.small
  by_cases za : mayV ta 0 = 0
  · by_cases zb : mayV tb 0 = 0
    · have eab : cmpEE ta tb = 0 := by unfold cmpEE; rw [if_neg (by omega)]; exact zb
      by_cases zc : mayV tc 0 = 0
      · have fa : Fit ta := ⟨0, za⟩
        have fb : Fit tb := ⟨0, zb⟩
        have fc : Fit tc := ⟨0, zc⟩
        have ebc : cmpEE tb tc = 0 := by unfold cmpEE; rw [if_neg (by omega)]; exact zc
        have eac : cmpEE ta tc = 0 := by unfold cmpEE; rw [if_neg (by omega)]; exact zc
        have eba : cmpEE tb ta = 0 := by unfold cmpEE; rw [if_neg (by omega)]; exact za
        have vab : cmpEV ta tb = cmpV ta tb := by unfold cmpEV; rw [if_neg (by omega), if_neg (by omega)]
        have vbc : cmpEV tb tc = cmpV tb tc := by unfold cmpEV; rw [if_neg (by omega), if_neg (by omega)]
        have vac : cmpEV ta tc = cmpV ta tc := by unfold cmpEV; rw [if_neg (by omega), if_neg (by omega)]
        have vba : cmpEV tb ta = cmpV tb ta := by unfold cmpEV; rw [if_neg (by omega), if_neg (by omega)]
        have anti : cmpEV tb ta = - cmpEV ta tb := by rw [vba, vab]; exact cmpV_anti ta tb fa fb
        have hp := cmpV_vals ta tb fa fb
        rw [← vab] at hp
        by_cases z0 : 0 < cmpEV ta tb
        · exact chain_p ta tb tc _ _ _ _ _ _ _ _ _ _ _ _ _ _ _ _ _ _ _ _ _ w ia ib ic hT la lb lc rfl rfl rfl _ _ _ _ _ _ _ _ (fun W x y h1 h2 hT => Compare_any ta tb x y W h1 h2 sa sb hT) (fun W x y h1 h2 hT => Compare_any tb tc x y W h1 h2 sb sc hT) (fun W x y h1 h2 hT => Compare_any ta tc x y W h1 h2 sa sc hT) (fun W x y h1 h2 hT => Compare_any tb ta x y W h1 h2 sb sa hT) eab ebc eac eba anti hp z0
        · by_cases z1 : 0 < cmpEV tb tc
          · exact chain_q ta tb tc _ _ _ _ _ _ _ _ _ _ _ _ _ _ _ _ _ _ _ _ _ w ia ib ic hT la lb lc rfl rfl rfl _ _ _ _ _ _ _ _ (fun W x y h1 h2 hT => Compare_any ta tb x y W h1 h2 sa sb hT) (fun W x y h1 h2 hT => Compare_any tb tc x y W h1 h2 sb sc hT) (fun W x y h1 h2 hT => Compare_any ta tc x y W h1 h2 sa sc hT) (fun W x y h1 h2 hT => Compare_any tb ta x y W h1 h2 sb sa hT) eab ebc eac eba anti hp z0 z1
          · exact chain_r ta tb tc _ _ _ _ _ _ _ _ _ _ _ _ _ _ _ _ _ _ _ _ _ w ia ib ic hT la lb lc rfl rfl rfl _ _ _ _ _ _ _ _ (fun W x y h1 h2 hT => Compare_any ta tb x y W h1 h2 sa sb hT) (fun W x y h1 h2 hT => Compare_any tb tc x y W h1 h2 sb sc hT) (fun W x y h1 h2 hT => Compare_any ta tc x y W h1 h2 sa sc hT) (fun W x y h1 h2 hT => Compare_any tb ta x y W h1 h2 sb sa hT) eab ebc eac eba anti hp z0 z1 (by
              rw [vac]
              rw [vab] at z0
              rw [vbc] at z1
              exact cmpV_trans ta tb tc fa fb fc (by omega) (by omega))
      · exact chain_c ta tb tc _ _ _ _ _ _ _ _ _ _ _ _ _ _ _ _ _ _ _ _ _ w ia ib ic hT la lb lc rfl rfl rfl _ _ _ _ _ _ _ _ (fun W x y h1 h2 hT => Compare_any ta tb x y W h1 h2 sa sb hT) (fun W x y h1 h2 hT => Compare_any tb tc x y W h1 h2 sb sc hT) (fun W x y h1 h2 hT => Compare_any ta tc x y W h1 h2 sa sc hT) (fun W x y h1 h2 hT => Compare_any tb ta x y W h1 h2 sb sa hT) eab (by unfold cmpEE; rw [if_neg (by omega)]; exact zc) zc za zb
    · exact chain_b ta tb tc _ _ _ _ _ _ _ _ _ _ _ _ _ _ _ _ _ _ _ _ _ w ia ib ic hT la lb lc rfl rfl rfl _ _ _ _ _ _ _ _ (fun W x y h1 h2 hT => Compare_any ta tb x y W h1 h2 sa sb hT) (fun W x y h1 h2 hT => Compare_any tb tc x y W h1 h2 sb sc hT) (fun W x y h1 h2 hT => Compare_any ta tc x y W h1 h2 sa sc hT) (fun W x y h1 h2 hT => Compare_any tb ta x y W h1 h2 sb sa hT) (by unfold cmpEE; rw [if_neg (by omega)]; exact zb) zb za
  · exact chain_a ta tb tc _ _ _ _ _ _ _ _ _ _ _ _ _ _ _ _ _ _ _ _ _ w ia ib ic hT la lb lc rfl rfl rfl _ _ _ _ _ _ _ _ (fun W x y h1 h2 hT => Compare_any ta tb x y W h1 h2 sa sb hT) (fun W x y h1 h2 hT => Compare_any tb tc x y W h1 h2 sb sc hT) (fun W x y h1 h2 hT => Compare_any ta tc x y W h1 h2 sa sc hT) (fun W x y h1 h2 hT => Compare_any tb ta x y W h1 h2 sb sa hT) (by unfold cmpEE; rw [if_pos za]; exact za) za
end Go.Proofs.YtpmhefdalhohdaaDoor
