/- block: rows of postings in memory (the program's and the document's have one form). Right: for every row. -/
import Derived.Test.YthpfaaindkkpcaaBFollow
namespace Go.Proofs.Ythpfaaindkkpcaa
open Go.RowKit Go.Maps
set_option linter.unusedVariables false
set_option linter.unusedSimpArgs false

structure Pst where
  row : Int
  len : Int
  A : Option Addr
  n : Nat
  c : Nat
  F : Nat → Int
structure PstAt (w : World) (b o : Nat) (x : Pst) : Prop where
  c0 : w.cell? ⟨b, o, none⟩ = some (.int .i64 x.row)
  c1 : w.cell? ⟨b, o + 1, none⟩ = some (.int .i64 x.len)
  c2 : w.cell? ⟨b, o + 2, none⟩ = some (.slice x.A x.n x.c)
theorem PstAt.blk {w : World} {b o : Nat} {x : Pst} (h : PstAt w b o x) : b < w.heap.size := cell_in h.c0
theorem PstAt.keep {w w' : World} {b o : Nat} {x : Pst} (h : PstAt w b o x) (e : w'.heap[b]? = w.heap[b]?) : PstAt w' b o x :=
  ⟨(World.cell?_of_block (w := w) (a := ⟨b, o, none⟩) e).trans h.c0, (World.cell?_of_block (w := w) (a := ⟨b, o + 1, none⟩) e).trans h.c1, (World.cell?_of_block (w := w) (a := ⟨b, o + 2, none⟩) e).trans h.c2⟩
def In64 (z : Int) : Prop := -9223372036854775808 ≤ z ∧ z ≤ 9223372036854775807
/-- A slice of postings that can be read. -/
def Psts (w : World) (A : Option Addr) (n : Nat) (P : Nat → Pst) : Prop :=
  n ≤ 9223372036854775807 ∧ (∀ i, i < n → Ints w (P i).A (P i).n (P i).F ∧ In64 (P i).row ∧ In64 (P i).len ∧ ((P i).A = none → (P i).c = 0)) ∧ (0 < n → ∃ b o, A = some ⟨b, o, none⟩ ∧ ∀ i, i < n → PstAt w b (o + i * 3) (P i))
theorem Psts.blk {w : World} {A : Option Addr} {n : Nat} {P : Nat → Pst} (h : Psts w A n P) : ∀ b o, A = some ⟨b, o, none⟩ → 0 < n → b < w.heap.size := by
  rintro b o rfl hn
  obtain ⟨b', o', e, hc⟩ := h.2.2 hn
  injection e with e
  injection e with e1 e2
  subst e1
  exact (hc 0 hn).blk
theorem Psts.below {w w' : World} {A : Option Addr} {n B : Nat} {P : Nat → Pst} (h : Psts w A n P) (hb : Below B w w') (hB : w.heap.size ≤ B) : Psts w' A n P := by
  refine ⟨h.1, fun i hi => ⟨(h.2.1 i hi).1.below hb hB, (h.2.1 i hi).2⟩, fun hn => ?_⟩
  obtain ⟨b, o, e, hc⟩ := h.2.2 hn
  have := h.blk b o e hn
  exact ⟨b, o, e, fun i hi => (hc i hi).keep (hb.block b (by omega))⟩
theorem Psts.at_ {w : World} {A : Option Addr} {n : Nat} {P : Nat → Pst} (h : Psts w A n P) (hn : 0 < n) : ∃ b o, A = some ⟨b, o, none⟩ ∧ b < w.heap.size ∧ ∀ i, i < n → PstAt w b (o + i * 3) (P i) := by
  obtain ⟨b, o, e, hc⟩ := h.2.2 hn
  exact ⟨b, o, e, h.blk b o e hn, hc⟩
def rowsF (P : Nat → Pst) (i : Nat) : Int := (P i).row
def RightTo (P : Nat → Pst) (k : Nat) : Prop := ∀ i, i < k → aheadF (rowsF P) i < (P i).row ∧ MayP (P i).row (P i).len (P i).n (P i).F
def RightP (n : Nat) (P : Nat → Pst) : Prop := n ≤ 64 ∧ RightTo P n
instance (P : Nat → Pst) (k : Nat) : Decidable (RightTo P k) := by unfold RightTo; infer_instance
instance (n : Nat) (P : Nat → Pst) : Decidable (RightP n P) := by unfold RightP; infer_instance
def rightB (n : Nat) (P : Nat → Pst) : Bool := decide (RightP n P)
theorem right_succ {P : Nat → Pst} {k : Nat} (h : RightTo P k) (h1 : aheadF (rowsF P) k < (P k).row) (h2 : mayB (P k).row (P k).len (P k).n (P k).F = true) : RightTo P (k + 1) := fun i hi => by
  by_cases e : i = k
  · subst e; exact ⟨h1, of_decide_eq_true h2⟩
  · exact h i (by omega)
set_option maxHeartbeats 4000000 in
theorem right_any (A : Option Addr) (n c : Nat) (P : Nat → Pst) (w : World) (hI : Psts w A n P) : Calls Try.prog 18 #[.slice A n c] w fun e w' => e = .returned (.bool (rightB n P)) ∧ Below w.heap.size w w' := by
  have hn := hI.1
  by_cases h64 : n ≤ 64
  · have HI := Lib.hid hI
    clear hI
    go_enter Try.func18, Try.ntmps18
    go_wp2
    go_loopw [3, 11] (fun a i wr => ∃ k : Nat, k ≤ n ∧ a = .int .i64 (aheadF (rowsF P) k) ∧ i = .int .i64 k ∧ RightTo P k ∧ Below w.heap.size w wr) (fun _ i _ => n - (intOf i).toNat)
    case atStart => exact ⟨0, by omega, rfl, rfl, fun i hi => absurd hi (by omega), Below.refl _ _⟩
    case round =>
      obtain ⟨k, hk, rfl, rfl, hg, hnx⟩ := hrel
      have HG := Lib.hid hg
      have HX := Lib.hid hnx
      clear hg
      by_cases hlt : k < n
      · obtain ⟨b, o, hA, hbl, hc⟩ := HI.out.at_ (by omega)
        subst hA
        have hk3 := hc k hlt
        have q0 := kcell hnx hbl hk3.c0
        have q1 := kcell hnx hbl hk3.c1
        have q2 := kcell hnx hbl hk3.c2
        have HIk := Lib.hid ((HI.out.2.1 k hlt).1.below hnx (Nat.le_refl _))
        clear hc hk3
        have HNo1 : Hid (¬ aheadF (rowsF P) k < (P k).row → rightB n P = false) := Lib.hid fun q => decide_eq_false fun z => q (z.2 k hlt).1
        have HNo2 : Hid (mayB (P k).row (P k).len (P k).n (P k).F = false → rightB n P = false) := Lib.hid fun q => decide_eq_false fun z => by have := decide_eq_true (z.2 k hlt).2; unfold mayB at q; rw [this] at q; cases q
        have HS : Hid (aheadF (rowsF P) k < (P k).row → mayB (P k).row (P k).len (P k).n (P k).F = true → RightTo P (k + 1)) := Lib.hid fun q1 q2 => right_succ HG.out q1 q2
        have HSn := Lib.hid (show aheadF (rowsF P) (k + 1) = (P k).row from aheadF_succ (rowsF P) k)
        generalize aheadF (rowsF P) k = ah at *
        generalize P k = p at *
        obtain ⟨pr, pl, pA, pn, pc, pF⟩ := p
        dsimp only at q0 q1 q2 HIk HNo1 HNo2 HS HSn
        clear hnx
        by_cases h1 : ah < pr
        · cases hm : mayB pr pl pn pF with
          | true =>
            have HM : Hid (∀ W, Below wr.heap.size wr W → Calls Try.prog 27 #[.agg #[.int .i64 pr, .int .i64 pl, .slice pA pn pc]] W fun e w' => e = .returned (.bool true) ∧ Below W.heap.size W w') := Lib.hid fun W l => may_is (c := pc) hm W (HIk.out.below l (Nat.le_refl _))
            have HE := Lib.hid (HS.out h1 hm)
            clear hm
            go_wp2_with (go_at_call 27; (with_reducible refine (HM.out _ ((Below.refl _ _).alloc (Nat.le_refl _) _)).mono ?_); rintro e w1 ⟨rfl, l1⟩; have r0 := bcell l1 (b := wr.heap.size) (o := 0) (v := .int .i64 pr) (by go_simp) (by simp); have L1 := Lib.hid l1; clear l1)
            go_roundw
            case rel => exact ⟨k + 1, by omega, by rw [HSn.out], by go_num, HE.out, HX.out.trans (((Below.refl _ _).alloc (Nat.le_refl _) _).trans (L1.out.mono (by simp)) |>.mono HX.out.size)⟩
            case measure => simp [intOf]; omega
          | false =>
            have HM : Hid (∀ W, Below wr.heap.size wr W → Calls Try.prog 27 #[.agg #[.int .i64 pr, .int .i64 pl, .slice pA pn pc]] W fun e w' => e = .returned (.bool false) ∧ Below W.heap.size W w') := Lib.hid fun W l => may_is (c := pc) hm W (HIk.out.below l (Nat.le_refl _))
            have HE := Lib.hid (HNo2.out hm)
            clear hm
            go_wp2_with (go_at_call 27; (with_reducible refine (HM.out _ ((Below.refl _ _).alloc (Nat.le_refl _) _)).mono ?_); rintro e w1 ⟨rfl, l1⟩; have L1 := Lib.hid l1; clear l1)
            go_ret
            exact ⟨ret_b HE.out.symm, HX.out.trans (((Below.refl _ _).alloc (Nat.le_refl _) _).trans (L1.out.mono (by simp)) |>.mono HX.out.size)⟩
        · have k1 : decide (pr ≤ ah) = true := decide_eq_true (by omega)
          have HE := Lib.hid (HNo1.out h1)
          clear h1
          go_wp2
          go_ret
          exact ⟨ret_b HE.out.symm, HX.out.alloc HX.out.size _⟩
      · have e : n = k := by omega
        have HE : Hid (rightB n P = true) := Lib.hid (decide_eq_true ⟨h64, by rw [e]; exact HG.out⟩)
        clear e
        go_wp2
        go_ret
        exact ⟨ret_b HE.out.symm, HX.out⟩
  · have HE : Hid (rightB n P = false) := Lib.hid (decide_eq_false fun z => h64 z.1)
    clear hI
    go_enter Try.func18, Try.ntmps18
    go_wp2
    go_ret
    exact ⟨ret_b HE.out.symm, Below.refl _ _⟩
end Go.Proofs.Ythpfaaindkkpcaa
