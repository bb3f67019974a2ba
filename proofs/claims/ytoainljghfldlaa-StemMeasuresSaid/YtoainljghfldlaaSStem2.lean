/- stem's Stem: for every word up to a million bytes. -/
import Derived.Test.YtoainljghfldlaaSStem
import Derived.Test.YtoainljghfldlaaSFacts
namespace Go.Proofs.Ytoainljghfldlaa
open Go.RowKit
set_option linter.unusedVariables false
set_option linter.unusedSimpArgs false

open Go.Shelf
attribute [local go_sem] Oper.semAt_some
def stepsV : Value := .agg #[.func (.func 16) #[] #[], .func (.func 17) #[] #[], .func (.func 18) #[] #[], .func (.func 19) #[] #[], .func (.func 20) #[] #[], .func (.func 21) #[] #[], .func (.func 22) #[] #[], .func (.func 23) #[] #[]]
set_option maxHeartbeats 4000000 in
theorem steps_any (w : World) : Calls Try.prog 14 #[] w fun e w' => e = .returned stepsV ∧ Below w.heap.size w w' := by
  go_enter Try.func14, Try.ntmps14
  go_wp2
  refine bodyPost_ret (v := stepsV) (by simp [results, Try.results14, go_sem, stepsV]) rfl ⟨rfl, (Below.refl _ _).alloc (Nat.le_refl _) _⟩
theorem opIn_indexS {F : Fence} {n : Nat} {P : Program} {o : Oper} {a : Act} {w : World} {K : Act → World → Prop} {Q : Exit → Act → World → Prop} (ty : TypeId) (x i : Operand) (ho : o.op = .index ty x i) (v : Value)
    (h : (Instr.index ty (a.eval x) (a.eval i)).run P w = .ok v w) (hK : K (a.put o.dst v) w) : Oper.wpIn F n P o a w K Q := by
  refine ⟨fun f hf => by simp [Oper.about, ho] at hf, ?_⟩
  have e : o.semAt F.round a.eval = execOp a.eval o := by unfold Oper.semAt; rw [ho]; cases F.round <;> rfl
  have : (o.semAt F.round a.eval).run P w = .ok (.value v) w := by
    rw [e]
    unfold execOp
    simp only [ho, Sem.run_bind, Sem.run_pure, Result.andThen_ok, h]
  rw [this]
  exact hK
theorem run_out (t : List UInt8) (h : mayB t = true) : stemL t = runL 8 t := by unfold stemL; rw [if_pos h]
theorem stem_no {t : List UInt8} (h : mayB t = false) : stemL t = t := by unfold stemL; rw [if_neg (by rw [h]; decide)]
set_option maxRecDepth 100000 in
set_option maxHeartbeats 16000000 in
theorem stem_any (t : List UInt8) (ht : t.length ≤ 1000000) (w : World) : Calls Try.prog 9 #[.string (mkB t)] w fun e w' => e = .returned (.string (mkB (stemL t))) ∧ Below w.heap.size w w' := by
  have KM := Lib.hid (mayStem_any t ht w)
  cases hm : mayB t
  · rw [hm] at KM
    have HE := Lib.hid (stem_no hm)
    clear hm
    go_enter Try.func9, Try.ntmps9
    go_wp2_with (go_at_call 13; refine KM.out.mono ?_; rintro e w1 ⟨rfl, hb1⟩; have HB1 := Lib.hid hb1; clear hb1)
    go_ret
    exact ⟨by rw [HE.out]; rfl, HB1.out⟩
  · rw [hm] at KM
    have HE := Lib.hid (run_out t hm)
    clear hm
    refine (callsIn_wide (n := 5)).1 ?_
    refine callsIn_of_wp Try.func9 rfl trivial ?_ rfl
    simp only [Try.ntmps9, List.size_toArray, List.length_cons, List.length_nil, Nat.reduceAdd, Nat.reduceSub, Array.replicate_succ, Array.replicate_zero, List.push_toArray, List.append_toArray, List.nil_append, List.cons_append]
    gi_wp2_with (first
      | (refine ⟨trivial, ?_⟩; gi_at_call 13; refine CallsIn.mono (callsIn_wide.2 KM.out) ?_; rintro _ w1 ⟨rfl, hb1⟩; have HB1 := Lib.hid hb1; clear hb1)
      | (refine ⟨trivial, ?_⟩; gi_at_call 14; refine CallsIn.mono (callsIn_wide.2 (steps_any _)) ?_; rintro _ w2 ⟨rfl, hb2⟩; have HB2 := Lib.hid (HB1.out.trans (hb2.mono HB1.out.size)); clear hb2))
    unfold stepsV
    gi_loopw [0, 10] (fun s i wr => (∃ k : Nat, k ≤ 8 ∧ i = .int .i64 k ∧ s = .string (mkB (runL k t))) ∧ Below w.heap.size w wr) (fun _ i _ => 8 - (intOf i).toNat)
    case atStart => exact ⟨⟨0, by omega, rfl, rfl⟩, HB2.out⟩
    case round =>
      obtain ⟨⟨k, hk, rfl, rfl⟩, hB⟩ := hrel
      have HB := Lib.hid hB
      clear hB
      by_cases hlt : k < 8
      · have hl := Nat.le_trans (run_len k t) ht
        obtain ⟨s, hs⟩ : ∃ s, s = runL k t := ⟨_, rfl⟩
        have HN := Lib.hid (show runL (k + 1) t = stepL k s by rw [hs]; rfl)
        rw [← hs] at hl ⊢
        clear hs
        have HL := Lib.hid hl
        clear hl
        rcases (show k = 0 ∨ k = 1 ∨ k = 2 ∨ k = 3 ∨ k = 4 ∨ k = 5 ∨ k = 6 ∨ k = 7 by omega) with rfl | rfl | rfl | rfl | rfl | rfl | rfl | rfl
        · have hix : (Instr.index 31 stepsV (.int .i64 (((0 : Nat)) : Int))).run Try.prog wr = .ok (.func (.func 16) #[] #[]) wr := by kernel_rfl
          have KS := Lib.hid (step1a_any s HL.out wr)
          unfold stepsV at hix
          clear hlt hk
          gi_wp2_with (first
            | (refine opIn_indexS _ _ _ rfl _ hix ?_)
            | (refine ⟨trivial, ?_⟩; gi_at_call 16; refine CallsIn.mono (callsIn_wide.2 KS.out) ?_; rintro _ w3 ⟨rfl, hb3⟩; have HB3 := Lib.hid (HB.out.trans (hb3.mono HB.out.size)); clear hb3))
          exact ⟨⟨⟨0 + 1, by omega, rfl, by rw [HN.out]; rfl⟩, HB3.out⟩, by simp [intOf]⟩
        · have hix : (Instr.index 31 stepsV (.int .i64 (((1 : Nat)) : Int))).run Try.prog wr = .ok (.func (.func 17) #[] #[]) wr := by kernel_rfl
          have KS := Lib.hid (step1b_any s HL.out wr)
          unfold stepsV at hix
          clear hlt hk
          gi_wp2_with (first
            | (refine opIn_indexS _ _ _ rfl _ hix ?_)
            | (refine ⟨trivial, ?_⟩; gi_at_call 17; refine CallsIn.mono (callsIn_wide.2 KS.out) ?_; rintro _ w3 ⟨rfl, hb3⟩; have HB3 := Lib.hid (HB.out.trans (hb3.mono HB.out.size)); clear hb3))
          exact ⟨⟨⟨1 + 1, by omega, rfl, by rw [HN.out]; rfl⟩, HB3.out⟩, by simp [intOf]⟩
        · have hix : (Instr.index 31 stepsV (.int .i64 (((2 : Nat)) : Int))).run Try.prog wr = .ok (.func (.func 18) #[] #[]) wr := by kernel_rfl
          have KS := Lib.hid (step1c_any s HL.out wr)
          unfold stepsV at hix
          clear hlt hk
          gi_wp2_with (first
            | (refine opIn_indexS _ _ _ rfl _ hix ?_)
            | (refine ⟨trivial, ?_⟩; gi_at_call 18; refine CallsIn.mono (callsIn_wide.2 KS.out) ?_; rintro _ w3 ⟨rfl, hb3⟩; have HB3 := Lib.hid (HB.out.trans (hb3.mono HB.out.size)); clear hb3))
          exact ⟨⟨⟨2 + 1, by omega, rfl, by rw [HN.out]; rfl⟩, HB3.out⟩, by simp [intOf]⟩
        · have hix : (Instr.index 31 stepsV (.int .i64 (((3 : Nat)) : Int))).run Try.prog wr = .ok (.func (.func 19) #[] #[]) wr := by kernel_rfl
          have KS := Lib.hid (step2_any s HL.out wr)
          unfold stepsV at hix
          clear hlt hk
          gi_wp2_with (first
            | (refine opIn_indexS _ _ _ rfl _ hix ?_)
            | (refine ⟨trivial, ?_⟩; gi_at_call 19; refine CallsIn.mono (callsIn_wide.2 KS.out) ?_; rintro _ w3 ⟨rfl, hb3⟩; have HB3 := Lib.hid (HB.out.trans (hb3.mono HB.out.size)); clear hb3))
          exact ⟨⟨⟨3 + 1, by omega, rfl, by rw [HN.out]; rfl⟩, HB3.out⟩, by simp [intOf]⟩
        · have hix : (Instr.index 31 stepsV (.int .i64 (((4 : Nat)) : Int))).run Try.prog wr = .ok (.func (.func 20) #[] #[]) wr := by kernel_rfl
          have KS := Lib.hid (step3_any s HL.out wr)
          unfold stepsV at hix
          clear hlt hk
          gi_wp2_with (first
            | (refine opIn_indexS _ _ _ rfl _ hix ?_)
            | (refine ⟨trivial, ?_⟩; gi_at_call 20; refine CallsIn.mono (callsIn_wide.2 KS.out) ?_; rintro _ w3 ⟨rfl, hb3⟩; have HB3 := Lib.hid (HB.out.trans (hb3.mono HB.out.size)); clear hb3))
          exact ⟨⟨⟨4 + 1, by omega, rfl, by rw [HN.out]; rfl⟩, HB3.out⟩, by simp [intOf]⟩
        · have hix : (Instr.index 31 stepsV (.int .i64 (((5 : Nat)) : Int))).run Try.prog wr = .ok (.func (.func 21) #[] #[]) wr := by kernel_rfl
          have KS := Lib.hid (step4_any s HL.out wr)
          unfold stepsV at hix
          clear hlt hk
          gi_wp2_with (first
            | (refine opIn_indexS _ _ _ rfl _ hix ?_)
            | (refine ⟨trivial, ?_⟩; gi_at_call 21; refine CallsIn.mono (callsIn_wide.2 KS.out) ?_; rintro _ w3 ⟨rfl, hb3⟩; have HB3 := Lib.hid (HB.out.trans (hb3.mono HB.out.size)); clear hb3))
          exact ⟨⟨⟨5 + 1, by omega, rfl, by rw [HN.out]; rfl⟩, HB3.out⟩, by simp [intOf]⟩
        · have hix : (Instr.index 31 stepsV (.int .i64 (((6 : Nat)) : Int))).run Try.prog wr = .ok (.func (.func 22) #[] #[]) wr := by kernel_rfl
          have KS := Lib.hid (step5a_any s HL.out wr)
          unfold stepsV at hix
          clear hlt hk
          gi_wp2_with (first
            | (refine opIn_indexS _ _ _ rfl _ hix ?_)
            | (refine ⟨trivial, ?_⟩; gi_at_call 22; refine CallsIn.mono (callsIn_wide.2 KS.out) ?_; rintro _ w3 ⟨rfl, hb3⟩; have HB3 := Lib.hid (HB.out.trans (hb3.mono HB.out.size)); clear hb3))
          exact ⟨⟨⟨6 + 1, by omega, rfl, by rw [HN.out]; rfl⟩, HB3.out⟩, by simp [intOf]⟩
        · have hix : (Instr.index 31 stepsV (.int .i64 (((7 : Nat)) : Int))).run Try.prog wr = .ok (.func (.func 23) #[] #[]) wr := by kernel_rfl
          have KS := Lib.hid (step5b_any s HL.out wr)
          unfold stepsV at hix
          clear hlt hk
          gi_wp2_with (first
            | (refine opIn_indexS _ _ _ rfl _ hix ?_)
            | (refine ⟨trivial, ?_⟩; gi_at_call 23; refine CallsIn.mono (callsIn_wide.2 KS.out) ?_; rintro _ w3 ⟨rfl, hb3⟩; have HB3 := Lib.hid (HB.out.trans (hb3.mono HB.out.size)); clear hb3))
          exact ⟨⟨⟨7 + 1, by omega, rfl, by rw [HN.out]; rfl⟩, HB3.out⟩, by simp [intOf]⟩
      · obtain rfl : k = 8 := by omega
        clear hlt hk
        gi_wp2
        go_ret
        exact ⟨by rw [HE.out]; rfl, HB.out⟩
end Go.Proofs.Ytoainljghfldlaa
