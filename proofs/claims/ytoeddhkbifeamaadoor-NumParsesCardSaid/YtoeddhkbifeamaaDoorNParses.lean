/- NumParses: the walk. -/
import Derived.Test.YtoeddhkbifeamaaDoorNRefParse
import Derived.Test.YtoeddhkbifeamaaDoorNAwake
namespace Go.Proofs.YtoeddhkbifeamaaDoor
open Go.RowKit
set_option linter.unusedVariables false

set_option maxHeartbeats 2000000 in
set_option maxRecDepth 100000 in
theorem refParse_bad (s : ByteArray) (w : World) (hs : s.size ≤ 60000) (h : s.size = 0 ∨ (cutP s).length ≠ s.size) :
    Calls Tryd.prog 10 #[.string s] w fun e w' => e = .returned (.tuple #[.int .i64 0, .int .i64 11]) ∧ w = w' := by
  have hsI : (s.size : Int) ≤ 60000 := by omega
  by_cases h0 : s.size = 0
  · have t1 : ((s.size : Int) == 0) = true := by rw [h0]; rfl
    clear h0 h
    go_enter Tryd.func10, Tryd.ntmps10
    go_wp2
    go_ret2
    exact ⟨rfl, rfl⟩
  · have t1 : ((s.size : Int) == 0) = false := by rw [beq_eq_false_iff_ne]; omega
    have hne : (cutP s).length ≠ s.size := by rcases h with h | h; exact absurd h h0; exact h
    have CS := Lib.hid fun W => refScan_any s W (by omega)
    obtain ⟨q, hq⟩ : ∃ q, q = (cutP s).length := ⟨_, rfl⟩
    rw [← hq] at CS hne
    have t2 : ((q : Int) != (s.size : Int)) = true := by simp; omega
    clear hq hne h0 h
    go_enter Tryd.func10, Tryd.ntmps10
    go_wp2_with (go_at_call 12; refine (CS.out _).mono ?_; rintro _ _ ⟨rfl, rfl⟩)
    go_ret2
    exact ⟨rfl, rfl⟩
theorem tookI_ge (s : ByteArray) (i : Nat) (S : List UInt8) : i ≤ tookI s i S := by unfold tookI; split <;> omega
theorem cutTail_le (s : ByteArray) (b : Bool) (wh re : ByteArray) (i : Nat) (hi : i ≤ s.size) : (cutTail s b wh re i).length ≤ s.size := by
  unfold cutTail
  split
  · split
    · exact hi
    · rename_i h
      exact runAt_le s _ (Nat.le_of_lt (run_lt s _ h))
  · exact hi
theorem cutDot_le (s : ByteArray) (b : Bool) (wh : ByteArray) (i : Nat) (hi : i ≤ s.size) : (cutDot s b wh i).length ≤ s.size := by
  unfold cutDot
  split
  · rename_i h
    split
    · exact hi
    · exact cutTail_le _ _ _ _ _ (runAt_le s _ (signAt_lt h))
  · exact cutTail_le _ _ _ _ _ hi
theorem cutP_le (s : ByteArray) : (cutP s).length ≤ s.size := by
  unfold cutP
  have h0 := tookI_le s 0 [45] (Nat.zero_le _)
  split
  · rename_i h
    exact cutDot_le _ _ _ _ (signAt_lt h)
  · split
    · exact Nat.zero_le _
    · exact cutDot_le _ _ _ _ (runAt_le s _ h0)
theorem refParse_any (s : ByteArray) (w : World) (hs : s.size ≤ 60000) :
    Calls Tryd.prog 10 #[.string s] w fun e w' => e = .returned (.tuple #[.int .i64 (parseV s), .int .i64 (parseE s)]) ∧ w = w' := by
  have hle := cutP_le s
  by_cases h : (cutP s).length = 0 ∨ (cutP s).length < s.size
  · have h1 : parseV s = 0 := by unfold parseV; rw [if_neg (by omega), if_pos h]
    have h2 : parseE s = 11 := by unfold parseE; rw [if_neg (by omega), if_pos h]
    rw [h1, h2]
    exact refParse_bad s w hs (by omega)
  · have h1 : parseV s = valV (cutP s) := by unfold parseV; rw [if_neg (by omega), if_neg h]
    have h2 : parseE s = valE (cutP s) := by unfold parseE; rw [if_neg (by omega), if_neg h]
    rw [h1, h2]
    exact refParse_good s w hs (by omega) (by omega)
set_option maxHeartbeats 2000000 in
set_option maxRecDepth 100000 in
theorem numParses_walk (s : ByteArray) (w : World) (ht : TabW w) (hs : s.size ≤ 9223372036854775807) :
    Calls Tryd.prog 3 #[.string s] w fun r w' => r = .returned (.bool true) ∧ Below w.heap.size w w' := by
  have H := Lib.hid ht
  clear ht
  by_cases hb : 300 < s.size
  · go_enter Tryd.func3, Tryd.ntmps3
    go_wp2
    go_ret
    exact ⟨rfl, Below.refl _ _⟩
  · have hsI : (s.size : Int) ≤ 300 := by omega
    have H1 := Lib.hid fun W => parse_any s W hs
    have H2 := Lib.hid fun W => refParse_any s W (by omega)
    have H3 := Lib.hid fun W => scan_any s W hs
    have H4 := Lib.hid fun W => refScan_any s W (by omega)
    obtain ⟨v, hv⟩ : ∃ v, v = parseV s := ⟨_, rfl⟩
    obtain ⟨e, he⟩ : ∃ e, e = parseE s := ⟨_, rfl⟩
    obtain ⟨q, hq⟩ : ∃ q, q = (cutP s).length := ⟨_, rfl⟩
    rw [← hv, ← he] at H1 H2
    rw [← hq] at H3 H4
    have q1 : (v == v) = true := by simp
    have q2 : (e == e) = true := by simp
    have q3 : ((q : Int) == (q : Int)) = true := by simp
    clear hv he hq hb
    go_enter Tryd.func3, Tryd.ntmps3
    go_wp2_with fail
    refine (H1.out _).mono ?_
    rintro _ w1 ⟨rfl, l1⟩
    have L1 := Lib.hid l1
    clear l1
    go_wp2_with fail
    refine (H2.out _).mono ?_
    rintro _ _ ⟨rfl, rfl⟩
    go_wp2_with fail
    refine (H3.out _).mono ?_
    rintro _ w2 ⟨rfl, l2⟩
    have L2 := Lib.hid (L1.out.trans (l2.mono L1.out.size))
    clear l2
    go_wp2_with fail
    refine (H4.out _).mono ?_
    rintro _ _ ⟨rfl, rfl⟩
    go_wp2_with fail
    refine (awake_any _ (H.out.below L2.out)).mono ?_
    rintro _ w3 ⟨rfl, l3⟩
    have L3 := Lib.hid (L2.out.trans (l3.mono L2.out.size))
    clear l3
    go_wp2
    go_ret
    exact ⟨rfl, L3.out⟩
end Go.Proofs.YtoeddhkbifeamaaDoor
