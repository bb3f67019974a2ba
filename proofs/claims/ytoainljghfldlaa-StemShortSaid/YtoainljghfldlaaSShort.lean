/- StemShort, StemPlural: the walks. -/
import Derived.Test.YtoainljghfldlaaSLaw
namespace Go.Proofs.Ytoainljghfldlaa
open Go.RowKit
set_option linter.unusedVariables false
set_option linter.unusedSimpArgs false

open Go.Shelf
attribute [local go_sem] Oper.semAt_some
theorem hd_byte {s t : List UInt8} (h : Hd s t) : s.getD 0 0 = t.getD 0 0 ∧ 1 ≤ s.length := by
  cases s with
  | nil => exact absurd rfl h.1
  | cons a s => cases t with
    | nil => exact absurd h.2 (by simp)
    | cons b t =>
      have := h.2
      simp at this
      exact ⟨by simp [this], by simp⟩
set_option maxRecDepth 100000 in
set_option maxHeartbeats 8000000 in
theorem stemShort_walk (t : List UInt8) (hm : (mkB t).size ≤ maxLen) (w : World) : Calls Try.prog 4 #[.string (mkB t)] w fun e w' => e = .returned (.bool true) ∧ Below w.heap.size w w' := by
  unfold maxLen at hm
  have hsz := mkB_size t
  by_cases hl : t.length ≤ 200
  · have KS := Lib.hid fun W => stem_any t (by omega) W
    have KP := Lib.hid fun W => plain_any t (by omega) W
    cases hp : mayB t
    · rw [stem_no hp] at KS
      rw [hp] at KP
      have KA := Lib.hid fun W => awake_any W
      obtain ⟨bt, hbt⟩ : ∃ b, b = mkB t := ⟨_, rfl⟩
      rw [← hbt] at hsz KS KP hm ⊢
      have hb : bt.size ≤ 200 := by omega
      clear hbt hsz hp
      go_enter Try.func4, Try.ntmps4
      go_wp2_with (first
        | (go_at_call 9; refine (KS.out _).mono ?_; rintro _ w1 ⟨rfl, hb1⟩; have HB1 := Lib.hid hb1; clear hb1)
        | (go_at_call 10; refine (KP.out _).mono ?_; rintro _ _ ⟨rfl, rfl⟩)
        | (go_at_call 7; refine (KA.out _).mono ?_; rintro _ w2 ⟨rfl, hb2⟩; have HB2 := Lib.hid (HB1.out.trans (hb2.mono HB1.out.size)); clear hb2))
      go_ret
      exact ⟨rfl, HB2.out⟩
    · rw [hp] at KP
      obtain ⟨hh, hle⟩ := stem_hd hp
      obtain ⟨hx, h1⟩ := hd_byte hh
      have hs2 := mkB_size (stemL t)
      have h3 : 3 ≤ t.length := by unfold mayB at hp; simp only [Bool.and_eq_true, decide_eq_true_eq] at hp; exact hp.2
      have hA := byte_at t 0 (by omega)
      have hA2 := byte_at (stemL t) 0 (by omega)
      rw [hx] at hA2
      obtain ⟨x, hxx⟩ : ∃ x, x = t.getD 0 0 := ⟨_, rfl⟩
      rw [← hxx] at hA hA2
      obtain ⟨s, hs⟩ : ∃ s, s = stemL t := ⟨_, rfl⟩
      rw [← hs] at hA2 hs2 KS hle h1
      obtain ⟨bt, hbt⟩ : ∃ b, b = mkB t := ⟨_, rfl⟩
      obtain ⟨bs, hbs⟩ : ∃ b, b = mkB s := ⟨_, rfl⟩
      have hAe : ∀ h, (bt[0]'h) = x := by subst hbt; exact hA
      have hAe2 : ∀ h, (bs[0]'h) = x := by subst hbs; exact hA2
      rw [← hbt] at hsz KS KP hm ⊢
      rw [← hbs] at hs2 KS
      have hb : bt.size ≤ 200 := by omega
      have hb1 : bs.size ≤ bt.size := by omega
      have hb2 : 1 ≤ bs.size := by omega
      have hb3 : 3 ≤ bt.size := by omega
      have i1 : decide ((bs.size : Int) ≤ (bt.size : Int)) = true := by simp; omega
      have i2 : decide (bs.size ≤ bt.size) = true := by simp; omega
      have i3 : decide ((1 : Int) ≤ (bs.size : Int)) = true := by simp; omega
      clear hbt hsz hp hh hle hx h1 hs2 h3 hA hA2 hxx hs hbs
      go_enter Try.func4, Try.ntmps4
      go_wp2_with (first
        | (go_at_call 9; refine (KS.out _).mono ?_; rintro _ w1 ⟨rfl, hb1⟩; have HB1 := Lib.hid hb1; clear hb1)
        | (go_at_call 10; refine (KP.out _).mono ?_; rintro _ _ ⟨rfl, rfl⟩))
      go_region_held_law (fun W => True) (trivial) ((go_at_call 7; refine (awake_any _).mono ?_; rintro e w' ⟨rfl, hb5⟩; have HB5 := Lib.hid (show Below w.heap.size w w' from by first | exact HB1.out.trans (hb5.mono HB1.out.size) | exact HB1.out.drew.trans (hb5.mono HB1.out.drew.size)); clear hb5))
      all_goals go_wp2
      all_goals go_ret
      all_goals exact ⟨rfl, below_drewN HB5.out 0⟩
  · obtain ⟨bt, hbt⟩ : ∃ b, b = mkB t := ⟨_, rfl⟩
    rw [← hbt] at hsz hm ⊢
    have hb : (200 : Int) < (bt.size : Int) := by omega
    clear hsz hbt hl
    go_enter Try.func4, Try.ntmps4
    go_wp2
    go_ret
    exact ⟨rfl, Below.refl _ _⟩
theorem suf_1 {t : List UInt8} (h : 1 ≤ t.length) (a : UInt8) : sufB t [a] = (t.getD (t.length - 1) 0 == a) := by
  unfold sufB
  rw [decide_eq_true (show [a].length ≤ t.length by simpa using h)]
  have : t.drop (t.length - [a].length) = [t.getD (t.length - 1) 0] := by
    rw [show t.length - [a].length = t.length - 1 by simp, List.drop_eq_getElem_cons (by omega)]
    rw [List.drop_of_length_le (by omega)]
    congr 1
    simp [List.getD, show t.length - 1 < t.length by omega]
  rw [this]
  simp
theorem suf_2 {t : List UInt8} (h : 2 ≤ t.length) (a b : UInt8) : sufB t [a, b] = (t.drop (t.length - 2) == [a, b]) := by
  unfold sufB
  rw [decide_eq_true (show [a, b].length ≤ t.length by simpa using h)]
  simp
theorem suf_3 {t : List UInt8} (h : 3 ≤ t.length) (a b c : UInt8) : sufB t [a, b, c] = ((t.drop (t.length - 2) == [b, c]) && (t.getD (t.length - 3) 0 == a)) := by
  unfold sufB
  rw [decide_eq_true (show [a, b, c].length ≤ t.length by simpa using h)]
  have : t.drop (t.length - [a, b, c].length) = t.getD (t.length - 3) 0 :: t.drop (t.length - 2) := by
    rw [show t.length - [a, b, c].length = t.length - 3 by simp, List.drop_eq_getElem_cons (by omega)]
    rw [show t.length - 3 + 1 = t.length - 2 by omega]
    congr 1
    simp [List.getD, show t.length - 3 < t.length by omega]
  rw [this]
  simp only [List.cons_beq_cons, Bool.true_and]
  rw [Bool.and_comm]
end Go.Proofs.Ytoainljghfldlaa
