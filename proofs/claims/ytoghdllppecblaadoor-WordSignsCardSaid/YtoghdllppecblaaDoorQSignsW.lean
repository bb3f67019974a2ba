/- WordSigns: the walk. -/
import Derived.Test.YtoghdllppecblaaDoorQRefF
import Derived.Test.YtoghdllppecblaaDoorQReads
namespace Go.Proofs.YtoghdllppecblaaDoor
open Go.RowKit
set_option linter.unusedVariables false
set_option linter.unusedSimpArgs false

set_option maxRecDepth 100000 in
set_option maxHeartbeats 4000000 in
theorem wordSigns_walk (c : Int) (s : List UInt8) (w : World) (hc : -2147483648 ≤ c ∧ c ≤ 2147483647) (hT : TabT w) (hS : StopT w) : Calls Tryd.prog 3 #[.int .i32 c, .string (mkB s)] w fun e w' => e = .returned (.bool true) ∧ Below w.heap.size w w' := by
  have hsz : (mkB s).size = s.length := mkB_size s
  by_cases hl : s.length ≤ 100
  · have HT := Lib.hid hT
    have HS := Lib.hid hS
    have K1 := Lib.hid (fold_any c hc w hT)
    have K2 := Lib.hid fun W => refFold_any c (by omega) W
    have K3 := Lib.hid fun W hW => stop_any s W hW
    have K4 := Lib.hid fun W => refStop_any s W
    have hcI : ¬ (100 : Int) < ((mkB s).size : Int) := by omega
    have hcw : IntKind.i64.wrap c = c := IntWalk.i64_in _ (by omega)
    have hcw2 : wrap64 c = c := by unfold wrap64; omega
    obtain ⟨B, hB⟩ : ∃ B, B = mkB (foldL c) := ⟨_, rfl⟩
    rw [← hB] at K1 K2
    obtain ⟨b, hb⟩ : ∃ b, b = mkB s := ⟨_, rfl⟩
    rw [← hb] at K3 K4 hcI ⊢
    obtain ⟨sb, hsb⟩ : ∃ sb, sb = stopB s := ⟨_, rfl⟩
    rw [← hsb] at K3 K4
    have hq : (B.toList == B.toList) = true := by simp
    clear hT hS hsz hB hb hsb hc hl
    cases sb
    all_goals
      go_enter Tryd.func3, Tryd.ntmps3
      go_wp2_with fail
      refine (Calls.mono (R := _) K1.out ?_)
      rintro _ w1 ⟨rfl, l1⟩
      have L1 := Lib.hid l1
      clear l1
      go_wp2_with fail
      refine (Calls.mono (R := _) (K2.out _) ?_)
      rintro _ w2 ⟨rfl, l2⟩
      have L2 := Lib.hid (below2' L1.out l2)
      clear l2
      go_wp2_with fail
      refine (Calls.mono (R := _) (K3.out _ (HS.out.below L2.out)) ?_)
      rintro _ w3 ⟨rfl, l3⟩
      have L3 := Lib.hid (below2' L2.out l3)
      clear l3
      go_wp2_with fail
      refine (Calls.mono (R := _) (K4.out _) ?_)
      rintro _ w4 ⟨rfl, l4⟩
      have L4 := Lib.hid (below2' L3.out l4)
      clear l4
      go_wp2_with fail
      refine (Calls.mono (R := _) (awake_any _ (HT.out.below L4.out) (HS.out.below L4.out)) ?_)
      rintro _ w5 ⟨rfl, l5⟩
      have L5 := Lib.hid (below2' L4.out l5)
      clear l5
      go_wp2
      go_ret
      exact ⟨rfl, L5.out⟩
  · have hcI : (100 : Int) < ((mkB s).size : Int) := by omega
    clear hT hS hsz
    go_enter Tryd.func3, Tryd.ntmps3
    go_wp2
    go_ret
    exact ⟨rfl, Below.refl _ _⟩
end Go.Proofs.YtoghdllppecblaaDoor
