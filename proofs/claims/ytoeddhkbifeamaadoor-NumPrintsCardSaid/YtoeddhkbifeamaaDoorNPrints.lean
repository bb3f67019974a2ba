/- NumPrints: the walk. -/
import Derived.Test.YtoeddhkbifeamaaDoorNRefPrint2
namespace Go.Proofs.YtoeddhkbifeamaaDoor
open Go.RowKit
set_option linter.unusedVariables false

set_option maxHeartbeats 2000000 in
set_option maxRecDepth 100000 in
theorem numPrints_walk (a : Int) (w : World) (ht : TabW w) :
    Calls Tryd.prog 4 #[.int .i64 a] w fun r w' => r = .returned (.bool true) ∧ Below w.heap.size w w' := by
  have H := Lib.hid ht
  have H1 := Lib.hid fun W h => print_any a W h
  have H2 := Lib.hid fun W => refPrint_any a W
  obtain ⟨S, hS⟩ : ∃ S : ByteArray, S = ⟨(printS a).toArray⟩ := ⟨_, rfl⟩
  obtain ⟨e, he⟩ : ∃ e, e = printE a := ⟨_, rfl⟩
  rw [← hS, ← he] at H1 H2
  have q1 : (S.toList == S.toList) = true := by simp
  have q2 : (e == e) = true := by simp
  have hb : e = 0 ∨ e = 2 := by
    rw [he]
    unfold printE
    split
    · exact .inl rfl
    · exact .inr rfl
  clear hS he ht
  rcases hb with rfl | rfl
  · go_enter Tryd.func4, Tryd.ntmps4
    go_wp2_with fail
    refine (H1.out _ H.out).mono ?_
    rintro _ w1 ⟨rfl, l1⟩
    have L1 := Lib.hid l1
    clear l1
    go_wp2_with fail
    refine (H2.out _).mono ?_
    rintro _ _ ⟨rfl, rfl⟩
    go_wp2_with fail
    refine (awake_any _ (H.out.below L1.out)).mono ?_
    rintro _ w3 ⟨rfl, l3⟩
    have L3 := Lib.hid (L1.out.trans (l3.mono L1.out.size))
    clear l3
    go_wp2
    go_ret
    exact ⟨rfl, L3.out⟩
  · go_enter Tryd.func4, Tryd.ntmps4
    go_wp2_with fail
    refine (H1.out _ H.out).mono ?_
    rintro _ w1 ⟨rfl, l1⟩
    have L1 := Lib.hid l1
    clear l1
    go_wp2_with fail
    refine (H2.out _).mono ?_
    rintro _ _ ⟨rfl, rfl⟩
    go_wp2_with fail
    refine (awake_any _ (H.out.below L1.out)).mono ?_
    rintro _ w3 ⟨rfl, l3⟩
    have L3 := Lib.hid (L1.out.trans (l3.mono L1.out.size))
    clear l3
    go_wp2
    go_ret
    exact ⟨rfl, L3.out⟩
end Go.Proofs.YtoeddhkbifeamaaDoor
