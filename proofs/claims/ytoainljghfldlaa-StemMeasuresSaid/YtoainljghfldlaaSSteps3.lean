/- stem's steps 1b and 5b. -/
import Derived.Test.YtoainljghfldlaaSSteps
namespace Go.Proofs.Ytoainljghfldlaa
open Go.RowKit
set_option linter.unusedVariables false
set_option linter.unusedSimpArgs false

open Go.Shelf
attribute [local go_sem] Oper.semAt_some
theorem s1b_turn {t s : List UInt8} {b : Bool} (h : turnL t r1b = (s, b)) : s1bL t = if (!b || sufB t [101, 101, 100]) = true then s else mendL s := by unfold s1bL; rw [h]
set_option maxRecDepth 100000 in
set_option maxHeartbeats 8000000 in
theorem step1b_any (t : List UInt8) (ht : t.length ≤ 1000000) (w : World) : Calls Try.prog 17 #[.string (mkB t)] w fun e w' => e = .returned (.string (mkB (s1bL t))) ∧ Below w.heap.size w w' := by
  have HR := Lib.hid (rdE_made (w.alloc (.cells #[.int .i64 (0 : Nat)] 3)) w.heap.size 0 r1b 41 (w.heap.size + 1) (by simp))
  have HC := Lib.hid (turned_any t ht r1b (by decide) (by decide) (w.heap.size + 1) w.heap.size 0 3 ((w.alloc (.cells #[.int .i64 (0 : Nat)] 3)).alloc (.cells (cellsE w.heap.size 0 r1b).toArray 41)) HR.out (fun r hr => ok_above _ (List.all_eq_true.1 (show (r1b.all fun r => aboveA r.ask) = true by decide) r hr) (by go_simp)))
  have HB := Lib.hid (((Below.refl w.heap.size w).alloc (Nat.le_refl _) (.cells #[.int .i64 (0 : Nat)] 3)).alloc (by simp) (.cells (cellsE w.heap.size 0 r1b).toArray 41))
  have HS := Lib.hid fun W => hasSuf_any t [101, 101, 100] (by omega) (by decide) W
  have hln := turn_len (t := t) (rs := r1b) (by decide)
  obtain ⟨p, hp⟩ : ∃ p, p = turnL t r1b := ⟨_, rfl⟩
  rw [← hp] at HC hln
  obtain ⟨s, b⟩ := p
  dsimp only at HC hln
  have HM := Lib.hid fun W => mended_any s (by omega) W
  have HT := Lib.hid (s1b_turn hp.symm)
  clear hln hp
  cases b
  · refine (callsIn_wide (n := 5)).1 ?_
    refine callsIn_of_wp Try.func17 rfl trivial ?_ rfl
    simp only [Try.ntmps17, List.size_toArray, List.length_cons, List.length_nil, Nat.reduceAdd, Nat.reduceSub, Array.replicate_succ, Array.replicate_zero, List.push_toArray, List.append_toArray, List.nil_append, List.cons_append]
    gi_wp2_with (first
      | (refine ⟨trivial, ?_⟩; gi_at_call 26; refine CallsIn.mono (callsIn_wide.2 (above_any 0 _)) ?_; rintro _ _ ⟨rfl, rfl⟩)
      | (refine opIn_storeNew 41 (.tmp 3) (.tmp 10) rfl (w.alloc (.cells #[.int .i64 (0 : Nat)] 3)) _ (cellsE w.heap.size 0 r1b).toArray rfl ?hp rfl (by kernel_rfl) rfl (by kernel_rfl) ?_; case hp => (first | rfl | (simp [Act.eval, World.size_alloc]; done)))
      | (refine ⟨trivial, ?_⟩; gi_at_call 25; refine CallsIn.mono (callsIn_wide.2 HC.out) ?_; rintro _ w2 ⟨rfl, hb2⟩; have HB2 := Lib.hid (HB.out.trans (hb2.mono HB.out.size)); clear hb2)
      | (refine ⟨trivial, ?_⟩))
    go_ret
    exact ⟨by rw [HT.out]; rfl, HB2.out⟩
  · cases hs : sufB t [101, 101, 100]
    · rw [hs] at HS HT
      clear hs
      refine (callsIn_wide (n := 5)).1 ?_
      refine callsIn_of_wp Try.func17 rfl trivial ?_ rfl
      simp only [Try.ntmps17, List.size_toArray, List.length_cons, List.length_nil, Nat.reduceAdd, Nat.reduceSub, Array.replicate_succ, Array.replicate_zero, List.push_toArray, List.append_toArray, List.nil_append, List.cons_append]
      gi_wp2_with (first
        | (refine ⟨trivial, ?_⟩; gi_at_call 26; refine CallsIn.mono (callsIn_wide.2 (above_any 0 _)) ?_; rintro _ _ ⟨rfl, rfl⟩)
        | (refine opIn_storeNew 41 (.tmp 3) (.tmp 10) rfl (w.alloc (.cells #[.int .i64 (0 : Nat)] 3)) _ (cellsE w.heap.size 0 r1b).toArray rfl ?hp rfl (by kernel_rfl) rfl (by kernel_rfl) ?_; case hp => (first | rfl | (simp [Act.eval, World.size_alloc]; done)))
        | (refine ⟨trivial, ?_⟩; gi_at_call 25; refine CallsIn.mono (callsIn_wide.2 HC.out) ?_; rintro _ w2 ⟨rfl, hb2⟩; have HB2 := Lib.hid (HB.out.trans (hb2.mono HB.out.size)); clear hb2)
        | (refine ⟨trivial, ?_⟩; gi_at_call 28; refine CallsIn.mono (callsIn_wide.2 (HS.out _)) ?_; rintro _ _ ⟨rfl, rfl⟩)
        | (refine ⟨trivial, ?_⟩; gi_at_call 29; refine CallsIn.mono (callsIn_wide.2 (HM.out _)) ?_; rintro _ w3 ⟨rfl, hb3⟩; have HB3 := Lib.hid (HB2.out.trans (hb3.mono HB2.out.size)); clear hb3))
      go_ret
      exact ⟨by rw [HT.out]; rfl, HB3.out⟩
    · rw [hs] at HS HT
      clear hs
      refine (callsIn_wide (n := 5)).1 ?_
      refine callsIn_of_wp Try.func17 rfl trivial ?_ rfl
      simp only [Try.ntmps17, List.size_toArray, List.length_cons, List.length_nil, Nat.reduceAdd, Nat.reduceSub, Array.replicate_succ, Array.replicate_zero, List.push_toArray, List.append_toArray, List.nil_append, List.cons_append]
      gi_wp2_with (first
        | (refine ⟨trivial, ?_⟩; gi_at_call 26; refine CallsIn.mono (callsIn_wide.2 (above_any 0 _)) ?_; rintro _ _ ⟨rfl, rfl⟩)
        | (refine opIn_storeNew 41 (.tmp 3) (.tmp 10) rfl (w.alloc (.cells #[.int .i64 (0 : Nat)] 3)) _ (cellsE w.heap.size 0 r1b).toArray rfl ?hp rfl (by kernel_rfl) rfl (by kernel_rfl) ?_; case hp => (first | rfl | (simp [Act.eval, World.size_alloc]; done)))
        | (refine ⟨trivial, ?_⟩; gi_at_call 25; refine CallsIn.mono (callsIn_wide.2 HC.out) ?_; rintro _ w2 ⟨rfl, hb2⟩; have HB2 := Lib.hid (HB.out.trans (hb2.mono HB.out.size)); clear hb2)
        | (refine ⟨trivial, ?_⟩; gi_at_call 28; refine CallsIn.mono (callsIn_wide.2 (HS.out _)) ?_; rintro _ _ ⟨rfl, rfl⟩))
      go_ret
      exact ⟨by rw [HT.out]; rfl, HB2.out⟩
theorem s5b_no1 {t : List UInt8} (h : ¬ 1 < measL t) : s5bL t = t := by unfold s5bL; rw [decide_eq_false h]; rfl
theorem s5b_no2 {t : List UInt8} (h : sufB t [108, 108] = false) : s5bL t = t := by unfold s5bL; rw [h]; simp
theorem s5b_yes {t : List UInt8} (h : 1 < measL t) (hs : sufB t [108, 108] = true) : s5bL t = t.take (t.length - 1) := by unfold s5bL; rw [decide_eq_true h, hs]; rfl
set_option maxRecDepth 100000 in
set_option maxHeartbeats 8000000 in
theorem step5b_any (t : List UInt8) (ht : t.length ≤ 1000000) (w : World) : Calls Try.prog 23 #[.string (mkB t)] w fun e w' => e = .returned (.string (mkB (s5bL t))) ∧ Below w.heap.size w w' := by
  have KM := Lib.hid fun W => measure_any t ht W
  have KS := Lib.hid fun W => hasSuf_any t [108, 108] (by omega) (by decide) W
  have hsz := mkB_size t
  have HEX := Lib.hid (ext_take t (t.length - 1))
  have HL := Lib.hid fun h => suf_len (t := t) (e := [108, 108]) h
  obtain ⟨bt, hbt⟩ : ∃ b, b = mkB t := ⟨_, rfl⟩
  rw [← hbt] at hsz KM KS HEX ⊢
  have HBT := Lib.hid hbt
  have HSZ := Lib.hid hsz
  have hb : bt.size ≤ 1000000 := by omega
  clear hbt
  by_cases h1 : 1 < measL t
  · cases h2 : sufB t [108, 108]
    · have HE := Lib.hid (s5b_no2 h2)
      rw [h2] at KS
      obtain ⟨m, hm⟩ : ∃ m, m = measL t := ⟨_, rfl⟩
      rw [← hm] at KM h1
      have hi : (1 : Int) < (m : Int) := by omega
      clear h1 h2 hm hsz
      go_enter Try.func23, Try.ntmps23
      go_wp2_with (first
        | (go_at_call 6; refine (KM.out _).mono ?_; rintro e w1 ⟨rfl, hb1⟩; have B1 := Lib.hid hb1; clear hb1)
        | (go_at_call 28; refine (KS.out _).mono ?_; rintro _ _ ⟨rfl, rfl⟩))
      go_ret
      exact ⟨by rw [HE.out, ← HBT.out]; rfl, B1.out⟩
    · have HE := Lib.hid (s5b_yes h1 h2)
      have h3 := HL.out h2
      have hb2 : 2 ≤ bt.size := by rw [hsz]; exact h3
      rw [h2] at KS
      obtain ⟨m, hm⟩ : ∃ m, m = measL t := ⟨_, rfl⟩
      rw [← hm] at KM h1
      have hi : (1 : Int) < (m : Int) := by omega
      clear h1 h2 h3 hm hsz
      go_enter Try.func23, Try.ntmps23
      go_wp2_with (first
        | (go_at_call 6; refine (KM.out _).mono ?_; rintro e w1 ⟨rfl, hb1⟩; have B1 := Lib.hid hb1; clear hb1)
        | (go_at_call 28; refine (KS.out _).mono ?_; rintro _ _ ⟨rfl, rfl⟩))
      go_ret
      exact ⟨by rw [HE.out, ← HEX.out, ← HSZ.out]; rfl, B1.out⟩
  · have HE := Lib.hid (s5b_no1 h1)
    obtain ⟨m, hm⟩ : ∃ m, m = measL t := ⟨_, rfl⟩
    rw [← hm] at KM h1
    have hi : ¬ (1 : Int) < (m : Int) := by omega
    have hd : decide ((1 : Int) < (m : Int)) = false := by simp; omega
    have hdn : decide (1 < m) = false := by simp; omega
    clear hm hsz
    go_enter Try.func23, Try.ntmps23
    go_wp2_with (go_at_call 6; refine (KM.out _).mono ?_; rintro e w1 ⟨rfl, hb1⟩; have B1 := Lib.hid hb1; clear hb1)
    go_ret
    exact ⟨by rw [HE.out, ← HBT.out]; rfl, B1.out⟩
end Go.Proofs.Ytoainljghfldlaa
