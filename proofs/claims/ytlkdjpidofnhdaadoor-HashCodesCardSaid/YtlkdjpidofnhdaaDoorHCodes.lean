/- HashCodes: the walk. -/
import Derived.Test.YtlkdjpidofnhdaaDoorHRef2
import Derived.ChangeKeysEq
namespace Go.Proofs.YtlkdjpidofnhdaaDoor
open Go.RowKit
set_option linter.unusedVariables false

set_option maxRecDepth 100000 in
set_option maxHeartbeats 1600000 in
theorem hashCodes_walk (p : Pt) (n : Nat) (hn : n < 18446744073709551616) (w : World) (hm : MaskT w) :
    Calls Tryd.prog 3 #[.agg #[.int .i64 p.x, .int .i64 p.y], .int .u64 n] w fun e w' => e = .returned (.bool true) ∧ Below w.heap.size w w' := by
  have HM := Lib.hid hm
  have k1 := fun W h => code_any p W h
  have k2 := fun W => refCode_any p W
  have k3 := fun W h => place_any n hn W h
  have k4 := fun W => refPlace_any n hn W
  obtain ⟨c, hc⟩ : ∃ c, c = codeV p := ⟨_, rfl⟩
  obtain ⟨m, hmm⟩ : ∃ m, m = mayB p := ⟨_, rfl⟩
  obtain ⟨q, hq⟩ : ∃ q, q = placeV n := ⟨_, rfl⟩
  obtain ⟨t, ht⟩ : ∃ t, t = mayB (placeP n) := ⟨_, rfl⟩
  rw [← hc, ← hmm] at k1 k2
  rw [← hq, ← ht] at k3 k4
  have K1 := Lib.hid k1
  have K2 := Lib.hid k2
  have K3 := Lib.hid k3
  have K4 := Lib.hid k4
  have K5 := Lib.hid awake_any
  clear hm k1 k2 k3 k4 hc hmm hq ht
  go_enter Tryd.func3, Tryd.ntmps3
  go_wp2_with fail
  (with_reducible refine (K1.out _ (HM.out.below ((Below.refl w.heap.size w).alloc (Nat.le_refl _) _))).mono ?_); rintro _ w1 ⟨rfl, l1⟩
  have L1 := Lib.hid (((Below.refl w.heap.size w).alloc (Nat.le_refl _) _).trans (l1.mono (by simp)))
  obtain ⟨hc, hf⟩ := bcell l1
  have c0 : w1.cell? ⟨w.heap.size, 0, none⟩ = some (.int .i64 p.x) := by go_simp
  have c1 : w1.cell? ⟨w.heap.size, 1, none⟩ = some (.int .i64 p.y) := by go_simp
  clear l1 hc hf
  go_wp2_with fail
  (with_reducible refine (K2.out _).mono ?_); rintro _ w2 ⟨rfl, l2⟩
  have L2 := Lib.hid (below2' L1.out l2)
  clear l2 c0 c1
  go_wp2_with fail
  (with_reducible refine (K3.out _ (HM.out.below L2.out)).mono ?_); rintro _ w3 ⟨rfl, l3⟩
  have L3 := Lib.hid (below2' L2.out l3)
  clear l3
  go_wp2_with fail
  (with_reducible refine (K4.out _).mono ?_); rintro _ w4 ⟨rfl, l4⟩
  have hz3 : w.heap.size ≤ w3.heap.size := L3.out.size
  have L4 := Lib.hid ((L3.out.alloc hz3 _).trans (l4.mono (by simp; omega)))
  obtain ⟨hc4, hf4⟩ := bcell l4
  have c0 : w4.cell? ⟨w3.heap.size, 0, none⟩ = some (.int .i64 q.x) := by go_simp
  have c1 : w4.cell? ⟨w3.heap.size, 1, none⟩ = some (.int .i64 q.y) := by go_simp
  have hz4 : w3.heap.size < w4.heap.size := by have := l4.size; simp at this; omega
  clear l4 hc4 hf4
  have hmm : (m == m) = true := by simp
  have htt : (t == t) = true := by simp
  have L5 := Lib.hid (L4.out.alloc (Nat.le_of_lt (Nat.lt_of_le_of_lt hz3 hz4)) (.cells #[.int .i64 q.x, .int .i64 q.y] 23))
  go_wp2_with fail
  (with_reducible refine (K5.out _ (HM.out.below L5.out)).mono ?_); rintro _ w5 ⟨rfl, l5⟩
  have L6 := Lib.hid (below2' L5.out l5)
  clear l5
  go_wp2
  go_ret
  exact ⟨rfl, L6.out⟩
end Go.Proofs.YtlkdjpidofnhdaaDoor
