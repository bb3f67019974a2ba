/- log.slot.change: the change that a slot holds in an epoch. -/
import Derived.Test.YtmeijienfdefjaaLSlot
import Derived.Deep.QuietTactic
import Derived.BigQuiet
namespace Go.Proofs.Ytmeijienfdefjaa
open Go.RowKit
set_option linter.unusedVariables false

theorem isPage_yes {n : Int} (h : 0 ≤ n ∧ n ≤ 2147483647) : isPageB n = true := decide_eq_true h
theorem isPage_no {n : Int} (h : ¬ (0 ≤ n ∧ n ≤ 2147483647)) : isPageB n = false := decide_eq_false h
theorem cell_lt' {w : World} {a : Addr} {v : Value} (h : w.cell? a = some v) : a.block < w.heap.size := by
  rcases Nat.lt_or_ge a.block w.heap.size with hlt | hge
  · exact hlt
  · rw [World.cell?, Array.getElem?_eq_none hge] at h
    cases h
theorem put2_at {W : World} {z : Nat} {x y : Value} (h0 : W.cell? ⟨z, 0, none⟩ = some x) (h1 : W.cell? ⟨z, 1, none⟩ = some y) (a b : Value) :
    ((W.setCell ⟨z, 0, none⟩ a).setCell ⟨z, 1, none⟩ b).cell? ⟨z, 0, none⟩ = some a ∧ ((W.setCell ⟨z, 0, none⟩ a).setCell ⟨z, 1, none⟩ b).cell? ⟨z, 1, none⟩ = some b := by
  have n : (⟨z, 0, none⟩ : Addr) ≠ ⟨z, 1, none⟩ := fun e => by injection e with _ e; cases e
  refine ⟨?_, ?_⟩
  · exact (World.cell?_setCell_other (h := n.symm) ..).trans (World.cell?_setCell_same (h := h0) ..)
  · exact World.cell?_setCell_same (h := (World.cell?_setCell_other (h := n) ..).trans h1) ..
theorem put2_far {W : World} {z x y : Nat} (a b : Value) : ((W.setCell ⟨z, 0, none⟩ a).setCell ⟨z, 1, none⟩ b).cell? ⟨x, y + 2, none⟩ = W.cell? ⟨x, y + 2, none⟩ := by
  have n0 : (⟨z, 0, none⟩ : Addr) ≠ ⟨x, y + 2, none⟩ := fun e => by injection e with _ e; omega
  have n1 : (⟨z, 1, none⟩ : Addr) ≠ ⟨x, y + 2, none⟩ := fun e => by injection e with _ e; omega
  exact (World.cell?_setCell_other (h := n1) ..).trans (World.cell?_setCell_other (h := n0) ..)
theorem put2_bytes {W : World} {z x y n : Nat} {G : Nat → Nat} (h : Bytes W (some ⟨x, y + 2, none⟩) n G) (a b : Value) : Bytes ((W.setCell ⟨z, 0, none⟩ a).setCell ⟨z, 1, none⟩ b) (some ⟨x, y + 2, none⟩) n G := by
  refine ⟨h.1, h.2.1, fun hn => ?_⟩
  obtain ⟨b', o', e, hc⟩ := h.2.2 hn
  injection e with e
  injection e with e1 e2
  subst e1 e2
  refine ⟨x, y + 2, rfl, fun i hi => ?_⟩
  have := hc i hi
  rw [show y + 2 + i = (y + i) + 2 by omega] at this ⊢
  exact (put2_far a b).trans this
/-- What change tells. -/
def ChP (F : Nat → Nat) (m i epoch : Nat) (w : World) (e : Ending) (w' : World) : Prop :=
  (¬ isCh F m i epoch ∧ e = .returned (.tuple #[.agg #[.int .i64 0, .slice none 0 0], .bool false, .bool false]) ∨
    isCh F m i epoch ∧ ∃ B d, e = .returned (.tuple #[.agg #[.int .i64 (pageI F), .slice B (m - 25) d], .bool (decide (flagN F = 1)), .bool true]) ∧ Bytes w' B (m - 25) (fun j => F (25 + j)) ∧ m - 25 ≤ d ∧ d ≤ 9223372036854775807 ∧ (B = none → d = 0) ∧ (∀ b' o', B = some ⟨b', o', none⟩ → w.heap.size ≤ b')) ∧ Below w.heap.size w w'
set_option maxHeartbeats 4000000 in
set_option maxRecDepth 100000 in
theorem change_any (i b o n m c epoch : Nat) (F : Nat → Nat) (w : World) (hep : 1 ≤ epoch) (hi : i ≤ 1048576) (h1 : m + 20 ≤ n) (h2 : n ≤ m + 20) (h44 : 44 ≤ m) (hm : m ≤ 4076) (hc : n ≤ c) (hc2 : c ≤ 9223372036854775807) (hb : Bytes w (some ⟨b, o, none⟩) n F) :
    Calls Try.prog 37 #[.agg #[.int .i64 i, .slice (some ⟨b, o, none⟩) n c], .int .i64 epoch] w (ChP F m i epoch w) := by
  obtain ⟨W1, hW1⟩ : ∃ W1, W1 = (w.alloc (.cells #[.int .i64 i, .slice (some ⟨b, o, none⟩) n c] 90)).alloc (.cells #[.int .i64 0, .slice none 0 0] 44) := ⟨_, rfl⟩
  have hz1 : W1.heap.size = w.heap.size + 2 := by rw [hW1]; simp
  have L1 := Lib.hid (show Below w.heap.size w W1 by rw [hW1]; exact ((Below.refl _ _).alloc (Nat.le_refl _) _).alloc (by simp) _)
  have C1 := Lib.hid (show ∀ W : World, Below W1.heap.size W1 W → W.cell? ⟨w.heap.size, 0, none⟩ = some (.int .i64 i) ∧ W.cell? ⟨w.heap.size, 1, none⟩ = some (.slice (some ⟨b, o, none⟩) n c) ∧ W.cell? ⟨w.heap.size + 1, 0, none⟩ = some (.int .i64 0) ∧ W.cell? ⟨w.heap.size + 1, 1, none⟩ = some (.slice none 0 0) ∧ W.frozen? ⟨w.heap.size + 1, 0, none⟩ = false ∧ W.frozen? ⟨w.heap.size + 1, 1, none⟩ = false ∧ Below w.heap.size w W from fun W l => by
    refine ⟨(l.cell (p := ⟨w.heap.size, 0, none⟩) (by rw [hz1]; show w.heap.size < _; omega)).trans ?_, (l.cell (p := ⟨w.heap.size, 1, none⟩) (by rw [hz1]; show w.heap.size < _; omega)).trans ?_, (l.cell (p := ⟨w.heap.size + 1, 0, none⟩) (by rw [hz1]; show w.heap.size + 1 < _; omega)).trans ?_, (l.cell (p := ⟨w.heap.size + 1, 1, none⟩) (by rw [hz1]; show w.heap.size + 1 < _; omega)).trans ?_, (l.frozen (p := ⟨w.heap.size + 1, 0, none⟩) (by rw [hz1]; show w.heap.size + 1 < _; omega)).trans ?_, (l.frozen (p := ⟨w.heap.size + 1, 1, none⟩) (by rw [hz1]; show w.heap.size + 1 < _; omega)).trans ?_, L1.out.trans (l.mono L1.out.size)⟩ <;> rw [hW1] <;> simp)
  have K := Lib.hid (slotRead_any i b o n m c F W1 hi h1 h2 h44 hm hc hc2 (hb.below L1.out (Nat.le_refl _)))
  have HW1 := Lib.hid hW1
  clear hW1 hz1 hb
  go_enter Try.func37, Try.ntmps37
  go_upto_region 1 with (fail)
  rw [← HW1.out]
  obtain ⟨c0, c1, e0, e1, f0, f1, _⟩ := C1.out W1 (Below.refl _ _)
  go_wp2_with fail
  refine K.out.mono ?_
  rintro e W2 ⟨hr, l2⟩
  have L2 := Lib.hid l2
  clear l2 c0 c1 e0 e1 f0 f1
  have hzz := Lib.hid (show ∀ W : World, Below W1.heap.size W1 W → w.heap.size + 1 < W.heap.size from fun W l => cell_lt' (C1.out W l).2.2.1)
  rcases hr with ⟨hE, rfl⟩ | ⟨hE, B, d, rfl, hB, hd1, hd2, hd3, hd5⟩
  · have n1 : ((0 : Int) != (epoch : Int)) = true := by simp; omega
    have NO := Lib.hid (show ¬ isCh F m i epoch from fun k => by have := k.1; omega)
    clear hE
    obtain ⟨c0, c1, e0, e1, f0, f1, lw⟩ := C1.out _ L2.out
    have hz := hzz.out _ L2.out
    have hs := put2_at e0 e1 (.int .i64 0) (.slice none 0 0)
    have LB := Lib.hid ((lw.setCell (p := ⟨w.heap.size + 1, 0, none⟩) (by simp) (.int .i64 0)).setCell (p := ⟨w.heap.size + 1, 1, none⟩) (by simp) (.slice none 0 0))
    have HS := Lib.hid hs
    clear lw hs
    go_wp2_with fail
    obtain ⟨d0, d1⟩ := HS.out
    exact bodyPost_ret (v := .tuple #[.agg #[.int .i64 0, .slice none 0 0], .bool false, .bool false]) (by simp [results, Try.results37, go_sem, d0, d1]) rfl ⟨.inl ⟨NO.out, rfl⟩, LB.out⟩
  obtain ⟨E, hEE⟩ : ∃ E, E = epochN F m i := ⟨_, rfl⟩
  rw [← hEE]
  by_cases hne : E = epoch
  case neg =>
    have n1 : ((E : Int) != (epoch : Int)) = true := by simp; omega
    have NO := Lib.hid (show ¬ isCh F m i epoch from fun k => hne (hEE.trans k.1))
    clear hE hEE hne
    obtain ⟨c0, c1, e0, e1, f0, f1, lw⟩ := C1.out _ L2.out
    have hz := hzz.out _ L2.out
    have hs := put2_at e0 e1 (.int .i64 0) (.slice none 0 0)
    have LB := Lib.hid ((lw.setCell (p := ⟨w.heap.size + 1, 0, none⟩) (by simp) (.int .i64 0)).setCell (p := ⟨w.heap.size + 1, 1, none⟩) (by simp) (.slice none 0 0))
    have HS := Lib.hid hs
    have HB := Lib.hid hB
    clear lw hs hB
    go_wp2_with fail
    obtain ⟨d0, d1⟩ := HS.out
    exact bodyPost_ret (v := .tuple #[.agg #[.int .i64 0, .slice none 0 0], .bool false, .bool false]) (by simp [results, Try.results37, go_sem, d0, d1]) rfl ⟨.inl ⟨NO.out, rfl⟩, LB.out⟩
  subst hne
  have n1 : ((E : Int) != (E : Int)) = false := by simp
  obtain ⟨hb1, hb2, hb3⟩ := id hB
  obtain ⟨bb, oo, rfl, hcell⟩ := hb3 (by omega)
  have HD5 := Lib.hid (show w.heap.size ≤ bb from Nat.le_trans L1.out.size (hd5 bb oo rfl))
  clear hd5
  obtain ⟨f, hf⟩ : ∃ f, f = F 24 := ⟨_, rfl⟩
  have q8 : W2.cell? ⟨bb, oo + 8, none⟩ = some (.int .u8 (F 24 : Nat)) := hcell 8 (by omega)
  rw [← hf] at q8
  obtain ⟨P, hP⟩ : ∃ P, P = pageI F := ⟨_, rfl⟩
  have T := Lib.hid (show ∀ k : Nat, Calls Try.prog 58 #[.slice (some ⟨bb, oo, none⟩) (m - 16) d] (W2.drewN k) fun e w' => e = .returned (.int .i64 P) ∧ W2.drewN k = w' from fun k => by rw [hP]; exact take_any bb oo (m - 16) d _ (W2.drewN k) hB (by omega) hd1 hd2)
  have hm8 : 8 < m - 16 := by omega
  have hmI : (8 : Int) < ((m - 16 : Nat) : Int) := by omega
  have hm9 : 9 ≤ m - 16 := by omega
  have HCH := Lib.hid (show isCh F m i E ↔ (0 ≤ P ∧ P ≤ 2147483647) ∧ f ≤ 1 from ⟨fun k => ⟨⟨by rw [hP]; exact k.2.1, by rw [hP]; exact k.2.2.1⟩, by rw [hf]; exact k.2.2.2⟩, fun k => ⟨hEE.symm, by rw [← hP]; exact k.1.1, by rw [← hP]; exact k.1.2, by show F 24 ≤ 1; rw [← hf]; exact k.2⟩⟩)
  have HBT := Lib.hid hB
  have HP := Lib.hid hP
  have HF := Lib.hid hf
  have hf0 : (0 : Int) ≤ (f : Int) := by omega
  have LK := Lib.hid (fun k => below_drewN L2.out k)
  clear hB hb2 hb3 hcell hP hf hE hEE
  go_wp2_with fail
  go_quiet ((go_at_call 58; exact Calls.quiet_of_same ((T.out _).mono fun e w' ⟨he, hw⟩ => ⟨he, hw.symm⟩)))
  all_goals
    go_wp2_with fail
    refine (isPage_any _ _).mono ?_
    rintro e w' ⟨rfl, rfl⟩
    by_cases hp : 0 ≤ P ∧ P ≤ 2147483647
    case neg =>
      rw [isPage_no hp]
      have NO := Lib.hid (show ¬ isCh F m i E from fun k => hp (HCH.out.1 k).1)
      clear hp
      obtain ⟨c0, c1, e0, e1, f0, f1, lw⟩ := C1.out _ (LK.out nq)
      have hz := hzz.out _ (LK.out nq)
      have HS := Lib.hid (put2_at e0 e1 (.int .i64 0) (.slice none 0 0))
      have LB := Lib.hid ((lw.setCell (p := ⟨w.heap.size + 1, 0, none⟩) (by simp) (.int .i64 0)).setCell (p := ⟨w.heap.size + 1, 1, none⟩) (by simp) (.slice none 0 0))
      clear lw
      go_wp2_with fail
      obtain ⟨d0, d1⟩ := HS.out
      exact bodyPost_ret (v := .tuple #[.agg #[.int .i64 0, .slice none 0 0], .bool false, .bool false]) (by simp [results, Try.results37, go_sem, d0, d1]) rfl ⟨.inl ⟨NO.out, rfl⟩, LB.out⟩
    rw [isPage_yes hp]
    by_cases hf1 : f ≤ 1
    case neg =>
      have NO := Lib.hid (show ¬ isCh F m i E from fun k => hf1 (HCH.out.1 k).2)
      have hf2 : (1 : Int) < (f : Int) := by omega
      clear hp hf1
      obtain ⟨c0, c1, e0, e1, f0, f1, lw⟩ := C1.out _ (LK.out nq)
      have hz := hzz.out _ (LK.out nq)
      have HS := Lib.hid (put2_at e0 e1 (.int .i64 0) (.slice none 0 0))
      have LB := Lib.hid ((lw.setCell (p := ⟨w.heap.size + 1, 0, none⟩) (by simp) (.int .i64 0)).setCell (p := ⟨w.heap.size + 1, 1, none⟩) (by simp) (.slice none 0 0))
      clear lw
      go_wp2_with fail
      obtain ⟨d0, d1⟩ := HS.out
      exact bodyPost_ret (v := .tuple #[.agg #[.int .i64 0, .slice none 0 0], .bool false, .bool false]) (by simp [results, Try.results37, go_sem, d0, d1]) rfl ⟨.inl ⟨NO.out, rfl⟩, LB.out⟩
    have YES := Lib.hid (HCH.out.2 ⟨hp, hf1⟩)
    have hf2 : ¬ (1 : Int) < (f : Int) := by omega
    have hfl := Lib.hid (show ((f : Int) == 1) = decide (flagN F = 1) by
      have e : flagN F = f := HF.out.symm
      rw [e]
      by_cases k : f = 1
      · subst k; rfl
      · rw [decide_eq_false k]; simp; omega)
    obtain ⟨c0, c1, e0, e1, f0, f1, lw⟩ := C1.out _ (LK.out nq)
    have hz := hzz.out _ (LK.out nq)
    have h9m : (9 : Int) ≤ ((m - 16 : Nat) : Int) := by omega
    have HS := Lib.hid (put2_at e0 e1 (.int .i64 P) (.slice (some ⟨bb, oo + 9, none⟩) (m - 16 - 9) (d - 9)))
    have LB := Lib.hid ((lw.setCell (p := ⟨w.heap.size + 1, 0, none⟩) (by simp) (.int .i64 P)).setCell (p := ⟨w.heap.size + 1, 1, none⟩) (by simp) (.slice (some ⟨bb, oo + 9, none⟩) (m - 16 - 9) (d - 9)))
    have HW := Lib.hid (put2_bytes (z := w.heap.size + 1) (y := oo + 7) ((HBT.out.below (below_drewN (Below.refl _ _) nq) (Nat.le_refl _)).cut 9 (m - 25) (by omega)) (.int .i64 P) (.slice (some ⟨bb, oo + 9, none⟩) (m - 16 - 9) (d - 9)))
    clear lw hp hf1
    go_wp2_with fail
    obtain ⟨d0, d1⟩ := HS.out
    have e25 : m - 16 - 9 = m - 25 := by omega
    refine bodyPost_ret (v := .tuple #[.agg #[.int .i64 P, .slice (some ⟨bb, oo + 9, none⟩) (m - 16 - 9) (d - 9)], .bool ((f : Int) == 1), .bool true]) (by simp [results, Try.results37, go_sem, d0, d1, HF.out]) rfl ⟨.inr ⟨YES.out, some ⟨bb, oo + 9, none⟩, d - 9, ?_, HW.out.congr fun i hi => ?_, by omega, by omega, (fun k => by cases k), fun b' o' e => by injection e with e; injection e with e1 e2; rw [← e1]; exact HD5.out⟩, LB.out⟩
    · rw [hfl.out, ← HP.out, e25]
    · show F (16 + (9 + i)) = F (25 + i)
      rw [show 16 + (9 + i) = 25 + i by omega]
end Go.Proofs.Ytmeijienfdefjaa
