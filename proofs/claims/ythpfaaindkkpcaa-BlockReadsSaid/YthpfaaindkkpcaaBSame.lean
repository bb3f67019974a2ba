/- the document's Same: two rows of the same data. -/
import Derived.Test.YthpfaaindkkpcaaBOf
import Derived.Test.YthpfaaindkkpcaaBInts
import Derived.Deep.RegionHeld3
import Derived.Deep.Cut
namespace Go.Proofs.Ythpfaaindkkpcaa
open Go.RowKit Go.Maps
set_option linter.unusedVariables false
set_option linter.unusedSimpArgs false

theorem hex_drew {W : World} {a b c d e f : Addr} {x y z x2 y2 z2 : Value} (h : W.cell? a = some x ∧ W.cell? b = some y ∧ W.cell? c = some z ∧ W.cell? d = some x2 ∧ W.cell? e = some y2 ∧ W.cell? f = some z2) : W.drew.cell? a = some x ∧ W.drew.cell? b = some y ∧ W.drew.cell? c = some z ∧ W.drew.cell? d = some x2 ∧ W.drew.cell? e = some y2 ∧ W.drew.cell? f = some z2 := h
theorem hex_keep {W W' : World} {b o1 o2 o3 b2 p1 p2 p3 : Nat} {x y z x2 y2 z2 : Value} (hb : Below W.heap.size W W') (h1 : b < W.heap.size) (h2 : b2 < W.heap.size) (h : W.cell? ⟨b, o1, none⟩ = some x ∧ W.cell? ⟨b, o2, none⟩ = some y ∧ W.cell? ⟨b, o3, none⟩ = some z ∧ W.cell? ⟨b2, p1, none⟩ = some x2 ∧ W.cell? ⟨b2, p2, none⟩ = some y2 ∧ W.cell? ⟨b2, p3, none⟩ = some z2) : W'.cell? ⟨b, o1, none⟩ = some x ∧ W'.cell? ⟨b, o2, none⟩ = some y ∧ W'.cell? ⟨b, o3, none⟩ = some z ∧ W'.cell? ⟨b2, p1, none⟩ = some x2 ∧ W'.cell? ⟨b2, p2, none⟩ = some y2 ∧ W'.cell? ⟨b2, p3, none⟩ = some z2 := by
  obtain ⟨a1, a2, a3, a4, a5, a6⟩ := h
  exact ⟨bcell hb a1 h1, bcell hb a2 h1, bcell hb a3 h1, bcell hb a4 h2, bcell hb a5 h2, bcell hb a6 h2⟩
set_option maxRecDepth 100000 in
set_option maxHeartbeats 8000000 in
theorem same_true (A : Option Addr) (n c : Nat) (P : Nat → Pst) (B : Option Addr) (d : Nat) (Q : Nat → Pst) (w : World) (hP : Psts w A n P) (hQ : Psts w B n Q) (hs : ∀ i, i < n → SameP (Q i) (P i)) :
    Calls Try.prog 7 #[.slice A n c, .slice B n d] w fun e w' => e = .returned (.bool true) ∧ Below w.heap.size w w' := by
  have hn := hP.1
  have HP := Lib.hid hP
  have HQ := Lib.hid hQ
  have HS := Lib.hid hs
  clear hP hQ hs
  go_enter Try.func7, Try.ntmps7
  go_wp2_with fail
  go_loopw [5] (fun i wr => ∃ k : Nat, k ≤ n ∧ i = .int .i64 k ∧ Below w.heap.size w wr) (fun i _ => n - (intOf i).toNat)
  case atStart => exact ⟨0, by omega, rfl, Below.refl _ _⟩
  case round =>
    obtain ⟨k, hk, rfl, hnx⟩ := hrel
    have HX := Lib.hid hnx
    by_cases hlt : k < n
    · obtain ⟨b, o, hA, hbl, hc⟩ := HP.out.at_ (by omega)
      obtain ⟨b2, o2, hB, hbl2, hc2⟩ := HQ.out.at_ (by omega)
      subst hA hB
      have q0 := kcell hnx hbl (hc k hlt).c0
      have q1 := kcell hnx hbl (hc k hlt).c1
      have q2 := kcell hnx hbl (hc k hlt).c2
      have p0 := kcell hnx hbl2 (hc2 k hlt).c0
      have p1 := kcell hnx hbl2 (hc2 k hlt).c1
      have p2 := kcell hnx hbl2 (hc2 k hlt).c2
      have hi1 := (HP.out.2.1 k hlt).1
      have hi2 := (HQ.out.2.1 k hlt).1
      obtain ⟨s1, s2, s3, s4⟩ := HS.out k hlt
      rw [s1] at p0
      rw [s2] at p1
      rw [s3] at p2
      rw [s3, s4] at hi2
      clear s1 s2 s3 s4 hc hc2 hnx
      generalize (Q k).A = A2 at *
      generalize (Q k).c = c2 at *
      generalize P k = p at *
      obtain ⟨pr, pl, pA, pn, pc, pF⟩ := p
      dsimp only at *
      have HI : Hid (∀ W, Below w.heap.size w W → Calls Try.prog 16 #[.slice pA pn pc, .slice A2 pn c2] W fun e w' => e = .returned (.bool true) ∧ Below W.heap.size W w') := Lib.hid fun W hW => ints_true _ _ _ _ _ _ _ (hi1.below hW (Nat.le_refl _)) (hi2.below hW (Nat.le_refl _))
      have SC := Lib.hid (show wr.cell? ⟨b, o + k * 3, none⟩ = some (.int .i64 pr) ∧ wr.cell? ⟨b, o + k * 3 + 1, none⟩ = some (.int .i64 pl) ∧ wr.cell? ⟨b, o + k * 3 + 2, none⟩ = some (.slice pA pn pc) ∧ wr.cell? ⟨b2, o2 + k * 3, none⟩ = some (.int .i64 pr) ∧ wr.cell? ⟨b2, o2 + k * 3 + 1, none⟩ = some (.int .i64 pl) ∧ wr.cell? ⟨b2, o2 + k * 3 + 2, none⟩ = some (.slice A2 pn c2) from ⟨q0, q1, q2, p0, p1, p2⟩)
      have HB1 := Lib.hid (show b < wr.drew.heap.size from Nat.lt_of_lt_of_le hbl HX.out.size)
      have HB2 := Lib.hid (show b2 < wr.drew.heap.size from Nat.lt_of_lt_of_le hbl2 HX.out.size)
      clear hi1 hi2
      go_wp2_with fail
      go_region_held3 (fun W => W.cell? ⟨b, o + k * 3, none⟩ = some (.int .i64 pr) ∧ W.cell? ⟨b, o + k * 3 + 1, none⟩ = some (.int .i64 pl) ∧ W.cell? ⟨b, o + k * 3 + 2, none⟩ = some (.slice pA pn pc) ∧ W.cell? ⟨b2, o2 + k * 3, none⟩ = some (.int .i64 pr) ∧ W.cell? ⟨b2, o2 + k * 3 + 1, none⟩ = some (.int .i64 pl) ∧ W.cell? ⟨b2, o2 + k * 3 + 2, none⟩ = some (.slice A2 pn c2)) (repeat (first | with_reducible assumption | with_reducible exact SC.out | with_reducible refine hex_drew ?_)) (first | (go_at_call 16; (with_reducible refine (HI.out _ HX.out.drew).mono ?_); rintro e w2 ⟨rfl, l2⟩; have L2 := Lib.hid l2; have hS2 := hex_keep l2 HB1.out HB2.out SC.out; clear l2))
      clear hS2
      go_wp2_with fail
      exact ⟨⟨k + 1, by omega, by go_num, HX.out.drew.trans (L2.out.mono HX.out.size)⟩, by simp [intOf]; omega⟩
    · obtain rfl : n = k := by omega
      clear hnx
      go_wp2_with fail
      go_ret
      exact ⟨rfl, HX.out⟩
end Go.Proofs.Ythpfaaindkkpcaa
