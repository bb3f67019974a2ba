/- The document's Key, but for numbers and rows. -/
import Derived.Test.YtpmhefdalhohdaaDoorORefWord
import Derived.Test.YtpmhefdalhohdaaDoorORefCmp
namespace Go.Proofs.YtpmhefdalhohdaaDoor
open Go.RowKit
set_option linter.unusedVariables false

set_option maxHeartbeats 4000000 in
set_option maxRecDepth 100000 in
theorem refKey_nil (b : Bool) (n : Int) (s : ByteArray) (m : Nat) (f : Nat → VT) (q : Nat) (g : Nat → ByteArray) (A : Option Addr) (c : Nat) (B : Option Addr) (d : Nat) (w : World) (ia : InV w (.mk 0 b n s m f q g) #[.int .i64 0, .bool b, .int .i64 n, .string s, .slice A m c, .slice B q d]) :
    Calls Tryd.prog 18 #[.agg #[.int .i64 0, .bool b, .int .i64 n, .string s, .slice A m c, .slice B q d]] w (MadeP (keyV (.mk 0 b n s m f q g)) w) := by
  obtain ⟨W1, hW1⟩ : ∃ W1, W1 = w.alloc (.cells #[.int .i64 0, .bool b, .int .i64 n, .string s, .slice A m c, .slice B q d] 25) := ⟨_, rfl⟩
  have hz1 : W1.heap.size = w.heap.size + 1 := by rw [hW1]; simp
  have PW := Lib.hid (show ∀ W : World, Below W1.heap.size W1 W → Below w.heap.size w W ∧ KeepC w W from fun W hb => ⟨(boxed hW1 hb).2.2.2.2.2.2.1, (boxed hW1 hb).2.2.2.2.2.2.2⟩)
  have KS := Lib.hid (show ∀ W : World, Below W1.heap.size W1 W → W.cell? ⟨w.heap.size, 0, none⟩ = some (.int .i64 0) ∧ W.cell? ⟨w.heap.size, 1, none⟩ = some (.bool b) ∧ W.cell? ⟨w.heap.size, 2, none⟩ = some (.int .i64 n) ∧ W.cell? ⟨w.heap.size, 3, none⟩ = some (.string s) ∧ W.cell? ⟨w.heap.size, 4, none⟩ = some (.slice A m c) ∧ W.cell? ⟨w.heap.size, 5, none⟩ = some (.slice B q d) from fun W hb => by
    obtain ⟨a0, a1, a2, a3, a4, a5, _, _⟩ := boxed hW1 hb
    exact ⟨a0, a1, a2, a3, a4, a5⟩)
  have RA := Lib.hid (show Calls Tryd.prog 29 #[.agg #[.int .i64 0, .bool b, .int .i64 n, .string s, .slice A m c, .slice B q d]] W1 fun e w' => e = .returned (.int .i64 1) ∧ Below W1.heap.size W1 w' from by
    have qq := refRank_any (.mk 0 b n s m f q g) _ W1 (ia.keep (PW.out W1 (Below.refl _ _)).2) (by show (0 : Int) ≤ 0 ∧ (0 : Int) ≤ 5; decide)
    rw [show rankV (.mk 0 b n s m f q g) = 1 from rfl] at qq
    exact qq)
  have HZ1 := Lib.hid hz1
  have HW := Lib.hid hW1
  clear hW1 hz1 ia
  go_enter Tryd.func18, Tryd.ntmps18
  go_wp2_with fail
  rw [← HW.out]
  refine RA.out.mono ?_
  rintro e w2 ⟨rfl, l2⟩
  have L2 := Lib.hid l2
  have HO := Lib.hid (own_one w2 W1.heap.size 1 l2.size)
  have L3 := Lib.hid (l2.alloc l2.size (.cells #[.int .u8 1] 5))
  obtain ⟨a0, a1, a2, a3, a4, a5⟩ := KS.out _ L3.out
  clear l2
  go_wp2_with fail
  go_ret
  exact ⟨_, rfl, OwnL.lower (by have := HO.out; exact this) (by have := HZ1.out; omega), (PW.out _ L3.out).1⟩
set_option maxHeartbeats 4000000 in
set_option maxRecDepth 100000 in
theorem refKey_true (n : Int) (s : ByteArray) (m : Nat) (f : Nat → VT) (q : Nat) (g : Nat → ByteArray) (A : Option Addr) (c : Nat) (B : Option Addr) (d : Nat) (w : World) (ia : InV w (.mk 1 true n s m f q g) #[.int .i64 1, .bool true, .int .i64 n, .string s, .slice A m c, .slice B q d]) :
    Calls Tryd.prog 18 #[.agg #[.int .i64 1, .bool true, .int .i64 n, .string s, .slice A m c, .slice B q d]] w (MadeP (keyV (.mk 1 true n s m f q g)) w) := by
  obtain ⟨W1, hW1⟩ : ∃ W1, W1 = w.alloc (.cells #[.int .i64 1, .bool true, .int .i64 n, .string s, .slice A m c, .slice B q d] 25) := ⟨_, rfl⟩
  have hz1 : W1.heap.size = w.heap.size + 1 := by rw [hW1]; simp
  have PW := Lib.hid (show ∀ W : World, Below W1.heap.size W1 W → Below w.heap.size w W ∧ KeepC w W from fun W hb => ⟨(boxed hW1 hb).2.2.2.2.2.2.1, (boxed hW1 hb).2.2.2.2.2.2.2⟩)
  have KS := Lib.hid (show ∀ W : World, Below W1.heap.size W1 W → W.cell? ⟨w.heap.size, 0, none⟩ = some (.int .i64 1) ∧ W.cell? ⟨w.heap.size, 1, none⟩ = some (.bool true) ∧ W.cell? ⟨w.heap.size, 2, none⟩ = some (.int .i64 n) ∧ W.cell? ⟨w.heap.size, 3, none⟩ = some (.string s) ∧ W.cell? ⟨w.heap.size, 4, none⟩ = some (.slice A m c) ∧ W.cell? ⟨w.heap.size, 5, none⟩ = some (.slice B q d) from fun W hb => by
    obtain ⟨a0, a1, a2, a3, a4, a5, _, _⟩ := boxed hW1 hb
    exact ⟨a0, a1, a2, a3, a4, a5⟩)
  have RA := Lib.hid (show Calls Tryd.prog 29 #[.agg #[.int .i64 1, .bool true, .int .i64 n, .string s, .slice A m c, .slice B q d]] W1 fun e w' => e = .returned (.int .i64 3) ∧ Below W1.heap.size W1 w' from by
    have qq := refRank_any (.mk 1 true n s m f q g) _ W1 (ia.keep (PW.out W1 (Below.refl _ _)).2) (by show (0 : Int) ≤ 1 ∧ (1 : Int) ≤ 5; decide)
    rw [show rankV (.mk 1 true n s m f q g) = 3 from by rw [rank_mk]; simp] at qq
    exact qq)
  have HZ1 := Lib.hid hz1
  have HW := Lib.hid hW1
  clear hW1 hz1 ia
  go_enter Tryd.func18, Tryd.ntmps18
  go_wp2_with fail
  rw [← HW.out]
  refine RA.out.mono ?_
  rintro e w2 ⟨rfl, l2⟩
  have L2 := Lib.hid l2
  have HO := Lib.hid (own_one w2 W1.heap.size 3 l2.size)
  have L3 := Lib.hid (l2.alloc l2.size (.cells #[.int .u8 3] 5))
  obtain ⟨a0, a1, a2, a3, a4, a5⟩ := KS.out _ L3.out
  clear l2
  have HKE := Lib.hid (show keyV (.mk 1 true n s m f q g) = [3] by unfold keyV; rw [rank_mk]; simp)
  go_wp2_with fail
  go_ret
  exact ⟨_, rfl, OwnL.lower (by rw [HKE.out]; exact HO.out) (by have := HZ1.out; omega), (PW.out _ L3.out).1⟩
set_option maxHeartbeats 4000000 in
set_option maxRecDepth 100000 in
theorem refKey_false (n : Int) (s : ByteArray) (m : Nat) (f : Nat → VT) (q : Nat) (g : Nat → ByteArray) (A : Option Addr) (c : Nat) (B : Option Addr) (d : Nat) (w : World) (ia : InV w (.mk 1 false n s m f q g) #[.int .i64 1, .bool false, .int .i64 n, .string s, .slice A m c, .slice B q d]) :
    Calls Tryd.prog 18 #[.agg #[.int .i64 1, .bool false, .int .i64 n, .string s, .slice A m c, .slice B q d]] w (MadeP (keyV (.mk 1 false n s m f q g)) w) := by
  obtain ⟨W1, hW1⟩ : ∃ W1, W1 = w.alloc (.cells #[.int .i64 1, .bool false, .int .i64 n, .string s, .slice A m c, .slice B q d] 25) := ⟨_, rfl⟩
  have hz1 : W1.heap.size = w.heap.size + 1 := by rw [hW1]; simp
  have PW := Lib.hid (show ∀ W : World, Below W1.heap.size W1 W → Below w.heap.size w W ∧ KeepC w W from fun W hb => ⟨(boxed hW1 hb).2.2.2.2.2.2.1, (boxed hW1 hb).2.2.2.2.2.2.2⟩)
  have KS := Lib.hid (show ∀ W : World, Below W1.heap.size W1 W → W.cell? ⟨w.heap.size, 0, none⟩ = some (.int .i64 1) ∧ W.cell? ⟨w.heap.size, 1, none⟩ = some (.bool false) ∧ W.cell? ⟨w.heap.size, 2, none⟩ = some (.int .i64 n) ∧ W.cell? ⟨w.heap.size, 3, none⟩ = some (.string s) ∧ W.cell? ⟨w.heap.size, 4, none⟩ = some (.slice A m c) ∧ W.cell? ⟨w.heap.size, 5, none⟩ = some (.slice B q d) from fun W hb => by
    obtain ⟨a0, a1, a2, a3, a4, a5, _, _⟩ := boxed hW1 hb
    exact ⟨a0, a1, a2, a3, a4, a5⟩)
  have RA := Lib.hid (show Calls Tryd.prog 29 #[.agg #[.int .i64 1, .bool false, .int .i64 n, .string s, .slice A m c, .slice B q d]] W1 fun e w' => e = .returned (.int .i64 2) ∧ Below W1.heap.size W1 w' from by
    have qq := refRank_any (.mk 1 false n s m f q g) _ W1 (ia.keep (PW.out W1 (Below.refl _ _)).2) (by show (0 : Int) ≤ 1 ∧ (1 : Int) ≤ 5; decide)
    rw [show rankV (.mk 1 false n s m f q g) = 2 from by rw [rank_mk]; simp] at qq
    exact qq)
  have HZ1 := Lib.hid hz1
  have HW := Lib.hid hW1
  clear hW1 hz1 ia
  go_enter Tryd.func18, Tryd.ntmps18
  go_wp2_with fail
  rw [← HW.out]
  refine RA.out.mono ?_
  rintro e w2 ⟨rfl, l2⟩
  have L2 := Lib.hid l2
  have HO := Lib.hid (own_one w2 W1.heap.size 2 l2.size)
  have L3 := Lib.hid (l2.alloc l2.size (.cells #[.int .u8 2] 5))
  obtain ⟨a0, a1, a2, a3, a4, a5⟩ := KS.out _ L3.out
  clear l2
  have HKE := Lib.hid (show keyV (.mk 1 false n s m f q g) = [2] by unfold keyV; rw [rank_mk]; simp)
  go_wp2_with fail
  go_ret
  exact ⟨_, rfl, OwnL.lower (by rw [HKE.out]; exact HO.out) (by have := HZ1.out; omega), (PW.out _ L3.out).1⟩
set_option maxHeartbeats 4000000 in
set_option maxRecDepth 100000 in
theorem refKey_text (b : Bool) (n : Int) (s : ByteArray) (m : Nat) (f : Nat → VT) (q : Nat) (g : Nat → ByteArray) (A : Option Addr) (c : Nat) (B : Option Addr) (d : Nat) (w : World) (ia : InV w (.mk 3 b n s m f q g) #[.int .i64 3, .bool b, .int .i64 n, .string s, .slice A m c, .slice B q d]) (hs : s.size ≤ 100000) :
    Calls Tryd.prog 18 #[.agg #[.int .i64 3, .bool b, .int .i64 n, .string s, .slice A m c, .slice B q d]] w (MadeP (keyV (.mk 3 b n s m f q g)) w) := by
  obtain ⟨W1, hW1⟩ : ∃ W1, W1 = w.alloc (.cells #[.int .i64 3, .bool b, .int .i64 n, .string s, .slice A m c, .slice B q d] 25) := ⟨_, rfl⟩
  have hz1 : W1.heap.size = w.heap.size + 1 := by rw [hW1]; simp
  have PW := Lib.hid (show ∀ W : World, Below W1.heap.size W1 W → Below w.heap.size w W ∧ KeepC w W from fun W hb => ⟨(boxed hW1 hb).2.2.2.2.2.2.1, (boxed hW1 hb).2.2.2.2.2.2.2⟩)
  have KS := Lib.hid (show ∀ W : World, Below W1.heap.size W1 W → W.cell? ⟨w.heap.size, 0, none⟩ = some (.int .i64 3) ∧ W.cell? ⟨w.heap.size, 1, none⟩ = some (.bool b) ∧ W.cell? ⟨w.heap.size, 2, none⟩ = some (.int .i64 n) ∧ W.cell? ⟨w.heap.size, 3, none⟩ = some (.string s) ∧ W.cell? ⟨w.heap.size, 4, none⟩ = some (.slice A m c) ∧ W.cell? ⟨w.heap.size, 5, none⟩ = some (.slice B q d) from fun W hb => by
    obtain ⟨a0, a1, a2, a3, a4, a5, _, _⟩ := boxed hW1 hb
    exact ⟨a0, a1, a2, a3, a4, a5⟩)
  have RA := Lib.hid (show Calls Tryd.prog 29 #[.agg #[.int .i64 3, .bool b, .int .i64 n, .string s, .slice A m c, .slice B q d]] W1 fun e w' => e = .returned (.int .i64 5) ∧ Below W1.heap.size W1 w' from by
    have qq := refRank_any (.mk 3 b n s m f q g) _ W1 (ia.keep (PW.out W1 (Below.refl _ _)).2) (by show (0 : Int) ≤ 3 ∧ (3 : Int) ≤ 5; decide)
    rw [show rankV (.mk 3 b n s m f q g) = 5 from rfl] at qq
    exact qq)
  have HZ1 := Lib.hid hz1
  have HW := Lib.hid hW1
  clear hW1 hz1 ia
  go_enter Tryd.func18, Tryd.ntmps18
  go_wp2_with fail
  rw [← HW.out]
  refine RA.out.mono ?_
  rintro e w2 ⟨rfl, l2⟩
  have L2 := Lib.hid l2
  have HO := Lib.hid (own_one w2 W1.heap.size 5 l2.size)
  have L3 := Lib.hid (l2.alloc l2.size (.cells #[.int .u8 5] 5))
  obtain ⟨a0, a1, a2, a3, a4, a5⟩ := KS.out _ L3.out
  clear l2
  go_wp2_with fail
  refine (refWord_any s _ hs).mono ?_
  rintro e w3 ⟨v, rfl, o3, l3⟩
  have O3 := Lib.hid o3
  have L4 := Lib.hid (L3.out.trans (l3.mono L3.out.size))
  clear o3 l3
  go_wp2_with fail
  go_ret
  exact ⟨_, rfl, OwnL.lower O3.out (by have := HZ1.out; have := L3.out.size; omega), (PW.out _ L4.out).1⟩
end Go.Proofs.YtpmhefdalhohdaaDoor
