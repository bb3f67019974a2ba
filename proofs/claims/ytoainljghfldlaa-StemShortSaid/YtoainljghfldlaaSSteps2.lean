/- stem's steps 2 and 4. -/
import Derived.Test.YtoainljghfldlaaSSteps
namespace Go.Proofs.Ytoainljghfldlaa
open Go.RowKit
set_option linter.unusedVariables false
set_option linter.unusedSimpArgs false

open Go.Shelf
attribute [local go_sem] Oper.semAt_some
set_option maxRecDepth 100000 in
set_option maxHeartbeats 8000000 in
theorem step2_any (t : List UInt8) (ht : t.length ≤ 1000000) (w : World) : Calls Try.prog 19 #[.string (mkB t)] w fun e w' => e = .returned (.string (mkB (s2L t))) ∧ Below w.heap.size w w' := by
  have HR := Lib.hid (rdE_made (w.alloc (.cells #[.int .i64 (0 : Nat)] 3)) w.heap.size 0 r2 44 (w.heap.size + 1) (by simp))
  have HC := Lib.hid (turned_any t ht r2 (by decide) (by decide) (w.heap.size + 1) w.heap.size 0 20 ((w.alloc (.cells #[.int .i64 (0 : Nat)] 3)).alloc (.cells (cellsE w.heap.size 0 r2).toArray 44)) HR.out (fun r hr => ok_above _ (List.all_eq_true.1 (show (r2.all fun r => aboveA r.ask) = true by decide) r hr) (by go_simp)))
  have HB := Lib.hid (((Below.refl w.heap.size w).alloc (Nat.le_refl _) (.cells #[.int .i64 (0 : Nat)] 3)).alloc (by simp) (.cells (cellsE w.heap.size 0 r2).toArray 44))
  refine (callsIn_wide (n := 5)).1 ?_
  refine callsIn_of_wp Try.func19 rfl trivial ?_ rfl
  simp only [Try.ntmps19, List.size_toArray, List.length_cons, List.length_nil, Nat.reduceAdd, Nat.reduceSub, Array.replicate_succ, Array.replicate_zero, List.push_toArray, List.append_toArray, List.nil_append, List.cons_append]
  gi_wp2_with (first
    | (refine ⟨trivial, ?_⟩; gi_at_call 26; refine CallsIn.mono (callsIn_wide.2 (above_any 0 _)) ?_; rintro _ _ ⟨rfl, rfl⟩)
    | (refine opIn_storeNew 44 (.tmp 4) (.tmp 46) rfl (w.alloc (.cells #[.int .i64 (0 : Nat)] 3)) _ (cellsE w.heap.size 0 r2).toArray rfl ?hp rfl (by kernel_rfl) rfl (by kernel_rfl) ?_; case hp => (first | rfl | (simp [Act.eval, World.size_alloc]; done)))
    | (refine ⟨trivial, ?_⟩; gi_at_call 25; refine CallsIn.mono (callsIn_wide.2 HC.out) ?_; rintro _ w2 ⟨rfl, hb2⟩; have HB2 := Lib.hid (HB.out.trans (hb2.mono HB.out.size)); clear hb2))
  go_ret
  exact ⟨rfl, HB2.out⟩
end Go.Proofs.Ytoainljghfldlaa
