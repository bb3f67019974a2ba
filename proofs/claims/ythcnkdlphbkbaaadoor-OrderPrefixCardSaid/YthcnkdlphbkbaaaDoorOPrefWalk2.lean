/- OrderPrefix: the walk where something is above all. -/
import Derived.Test.YthcnkdlphbkbaaaDoorOPrefWalk
namespace Go.Proofs.YthcnkdlphbkbaaaDoor
open Go.RowKit
set_option linter.unusedVariables false

theorem pref_dN {B k : Nat} {a w : World} (h : Below B a w) : Below B a (w.drewN k) := ⟨h.os, h.tape, h.output, h.size, h.block⟩
set_option maxHeartbeats 4000000 in
set_option maxRecDepth 100000 in
theorem pref_tt (A B C : Option Addr) (cA cB cC n nm no : Nat) (sb sm so sp : ByteArray) (w : World) (hn : n ≤ 300) (hm : nm ≤ 300) (ho : no ≤ 300) (hc : n ≤ cA ∧ cA ≤ 9223372036854775807) (hs : so.size = no) (hsb : sb.size + sm.size ≤ 281474976710656) (hp : sp.toList ≠ [])
    (KP : Calls Tryd.prog 21 #[.slice A n cA] w fun e w' => ∃ v, e = .returned v ∧ (convert 35 9 v).run Tryd.prog w' = .ok (.string sp) w' ∧ Below w.heap.size w w')
    (KC : ∀ W : World, Below w.heap.size w W → (convert 35 9 (.slice A n cA)).run Tryd.prog W = .ok (.string sb) W ∧ (convert 35 9 (.slice B nm cB)).run Tryd.prog W = .ok (.string sm) W ∧ (convert 35 9 (.slice C no cC)).run Tryd.prog W = .ok (.string so) W) (KA : ∀ W : World, Below w.heap.size w W → Calls Tryd.prog 15 #[] W fun e w' => e = .returned (.bool true) ∧ Below W.heap.size W w')
    (b1 : Op.bytesLess (sb ++ sm).toList sp.toList = true) (b2 : Op.bytesLess so.toList sp.toList = true) (b3 : Op.bytesLess so.toList sb.toList = true) (hlen : n ≤ no) (b4 : ((so.extract 0 n).toList == sb.toList) = true) :
    Calls Tryd.prog 9 #[.slice A n cA, .slice B nm cB, .slice C no cC] w fun e w' => e = .returned (.bool true) ∧ Below w.heap.size w w' := by
  have HP := Lib.hid KP
  have HC := Lib.hid KC
  have HA := Lib.hid KA
  have hp1 : sp.toList.isEmpty = false := by simpa using hp
  have hp2 : (sp.toList == []) = false := by simpa using hp
  have hsz1 : sb.size + sm.size ≤ 9223372036854775807 := by omega
  have hsz2 : ¬ 281474976710656 < sb.size + sm.size := by omega
  have hsz3 : ¬ 9223372036854775807 < sb.size + sm.size := by omega
  have HS := Lib.hid hs
  clear KP KC KA hp hs
  go_enter Tryd.func9, Tryd.ntmps9
  go_wp2_with fail
  refine HP.out.mono ?_
  rintro e w1 ⟨v1, rfl, q1, l1⟩
  have L1 := Lib.hid l1
  clear l1
  go_wp2_with fail
  clear q1
  have D1 := Lib.hid (L1.out.drew)
  go_region_held_law (fun W => (convert 35 9 (.slice A n cA)).run Tryd.prog W = .ok (.string sb) W ∧ (convert 35 9 (.slice B nm cB)).run Tryd.prog W = .ok (.string sm) W ∧ (convert 35 9 (.slice C no cC)).run Tryd.prog W = .ok (.string so) W)
    (exact HC.out _ D1.out)
    (fail)
  all_goals
    have D2 := Lib.hid (D1.out.drew)
    have e1 : (n : Int) ≤ (so.size : Int) := by have := HS.out; omega
    have e2 : n ≤ so.size := by have := HS.out; omega
    go_wp2_with fail
    go_region_held_law (fun W => (convert 35 9 (.slice A n cA)).run Tryd.prog W = .ok (.string sb) W)
      (exact (HC.out _ D2.out).1)
      (fail)
    all_goals
      have q3 := (HC.out _ D2.out).1
      go_wp2_with fail
      refine (HA.out _ D2.out).mono ?_
      rintro e w3 ⟨rfl, l3⟩
      have L3 := Lib.hid (D2.out.trans (l3.mono D2.out.size))
      clear l3 q3
      go_wp2_with fail
      go_ret
      exact ⟨rfl, L3.out⟩
set_option maxHeartbeats 4000000 in
set_option maxRecDepth 100000 in
theorem pref_tf (A B C : Option Addr) (cA cB cC n nm no : Nat) (sb sm so sp : ByteArray) (w : World) (hn : n ≤ 300) (hm : nm ≤ 300) (ho : no ≤ 300) (hc : n ≤ cA ∧ cA ≤ 9223372036854775807) (hs : so.size = no) (hsb : sb.size + sm.size ≤ 281474976710656) (hp : sp.toList ≠ [])
    (KP : Calls Tryd.prog 21 #[.slice A n cA] w fun e w' => ∃ v, e = .returned v ∧ (convert 35 9 v).run Tryd.prog w' = .ok (.string sp) w' ∧ Below w.heap.size w w')
    (KC : ∀ W : World, Below w.heap.size w W → (convert 35 9 (.slice A n cA)).run Tryd.prog W = .ok (.string sb) W ∧ (convert 35 9 (.slice B nm cB)).run Tryd.prog W = .ok (.string sm) W ∧ (convert 35 9 (.slice C no cC)).run Tryd.prog W = .ok (.string so) W) (KA : ∀ W : World, Below w.heap.size w W → Calls Tryd.prog 15 #[] W fun e w' => e = .returned (.bool true) ∧ Below W.heap.size W w')
    (b1 : Op.bytesLess (sb ++ sm).toList sp.toList = true) (b2 : Op.bytesLess so.toList sp.toList = true) (b3 : Op.bytesLess so.toList sb.toList = true) (hlen : n ≤ no) (b4 : ((so.extract 0 n).toList == sb.toList) = false) :
    Calls Tryd.prog 9 #[.slice A n cA, .slice B nm cB, .slice C no cC] w fun e w' => e = .returned (.bool true) ∧ Below w.heap.size w w' := by
  have HP := Lib.hid KP
  have HC := Lib.hid KC
  have HA := Lib.hid KA
  have hp1 : sp.toList.isEmpty = false := by simpa using hp
  have hp2 : (sp.toList == []) = false := by simpa using hp
  have hsz1 : sb.size + sm.size ≤ 9223372036854775807 := by omega
  have hsz2 : ¬ 281474976710656 < sb.size + sm.size := by omega
  have hsz3 : ¬ 9223372036854775807 < sb.size + sm.size := by omega
  have HS := Lib.hid hs
  clear KP KC KA hp hs
  go_enter Tryd.func9, Tryd.ntmps9
  go_wp2_with fail
  refine HP.out.mono ?_
  rintro e w1 ⟨v1, rfl, q1, l1⟩
  have L1 := Lib.hid l1
  clear l1
  go_wp2_with fail
  clear q1
  have D1 := Lib.hid (L1.out.drew)
  go_region_held_law (fun W => (convert 35 9 (.slice A n cA)).run Tryd.prog W = .ok (.string sb) W ∧ (convert 35 9 (.slice B nm cB)).run Tryd.prog W = .ok (.string sm) W ∧ (convert 35 9 (.slice C no cC)).run Tryd.prog W = .ok (.string so) W)
    (exact HC.out _ D1.out)
    (fail)
  all_goals
    have D2 := Lib.hid (D1.out.drew)
    have e1 : (n : Int) ≤ (so.size : Int) := by have := HS.out; omega
    have e2 : n ≤ so.size := by have := HS.out; omega
    go_wp2_with fail
    go_region_held_law (fun W => (convert 35 9 (.slice A n cA)).run Tryd.prog W = .ok (.string sb) W)
      (exact (HC.out _ D2.out).1)
      (fail)
    all_goals
      have q3 := (HC.out _ D2.out).1
      go_wp2_with fail
      refine (HA.out _ D2.out).mono ?_
      rintro e w3 ⟨rfl, l3⟩
      have L3 := Lib.hid (D2.out.trans (l3.mono D2.out.size))
      clear l3 q3
      go_wp2_with fail
      go_ret
      exact ⟨rfl, L3.out⟩
set_option maxHeartbeats 4000000 in
set_option maxRecDepth 100000 in
theorem pref_ft (A B C : Option Addr) (cA cB cC n nm no : Nat) (sb sm so sp : ByteArray) (w : World) (hn : n ≤ 300) (hm : nm ≤ 300) (ho : no ≤ 300) (hc : n ≤ cA ∧ cA ≤ 9223372036854775807) (hs : so.size = no) (hsb : sb.size + sm.size ≤ 281474976710656) (hp : sp.toList ≠ [])
    (KP : Calls Tryd.prog 21 #[.slice A n cA] w fun e w' => ∃ v, e = .returned v ∧ (convert 35 9 v).run Tryd.prog w' = .ok (.string sp) w' ∧ Below w.heap.size w w')
    (KC : ∀ W : World, Below w.heap.size w W → (convert 35 9 (.slice A n cA)).run Tryd.prog W = .ok (.string sb) W ∧ (convert 35 9 (.slice B nm cB)).run Tryd.prog W = .ok (.string sm) W ∧ (convert 35 9 (.slice C no cC)).run Tryd.prog W = .ok (.string so) W) (KA : ∀ W : World, Below w.heap.size w W → Calls Tryd.prog 15 #[] W fun e w' => e = .returned (.bool true) ∧ Below W.heap.size W w')
    (b1 : Op.bytesLess (sb ++ sm).toList sp.toList = true) (b2 : Op.bytesLess so.toList sp.toList = true) (b3 : Op.bytesLess so.toList sb.toList = false) (hlen : n ≤ no) (b4 : ((so.extract 0 n).toList == sb.toList) = true) :
    Calls Tryd.prog 9 #[.slice A n cA, .slice B nm cB, .slice C no cC] w fun e w' => e = .returned (.bool true) ∧ Below w.heap.size w w' := by
  have HP := Lib.hid KP
  have HC := Lib.hid KC
  have HA := Lib.hid KA
  have hp1 : sp.toList.isEmpty = false := by simpa using hp
  have hp2 : (sp.toList == []) = false := by simpa using hp
  have hsz1 : sb.size + sm.size ≤ 9223372036854775807 := by omega
  have hsz2 : ¬ 281474976710656 < sb.size + sm.size := by omega
  have hsz3 : ¬ 9223372036854775807 < sb.size + sm.size := by omega
  have HS := Lib.hid hs
  clear KP KC KA hp hs
  go_enter Tryd.func9, Tryd.ntmps9
  go_wp2_with fail
  refine HP.out.mono ?_
  rintro e w1 ⟨v1, rfl, q1, l1⟩
  have L1 := Lib.hid l1
  clear l1
  go_wp2_with fail
  clear q1
  have D1 := Lib.hid (L1.out.drew)
  go_region_held_law (fun W => (convert 35 9 (.slice A n cA)).run Tryd.prog W = .ok (.string sb) W ∧ (convert 35 9 (.slice B nm cB)).run Tryd.prog W = .ok (.string sm) W ∧ (convert 35 9 (.slice C no cC)).run Tryd.prog W = .ok (.string so) W)
    (exact HC.out _ D1.out)
    (fail)
  all_goals
    have D2 := Lib.hid (D1.out.drew)
    have e1 : (n : Int) ≤ (so.size : Int) := by have := HS.out; omega
    have e2 : n ≤ so.size := by have := HS.out; omega
    go_wp2_with fail
    go_region_held_law (fun W => (convert 35 9 (.slice A n cA)).run Tryd.prog W = .ok (.string sb) W)
      (exact (HC.out _ D2.out).1)
      (fail)
    all_goals
      have q3 := (HC.out _ D2.out).1
      go_wp2_with fail
      refine (HA.out _ D2.out).mono ?_
      rintro e w3 ⟨rfl, l3⟩
      have L3 := Lib.hid (D2.out.trans (l3.mono D2.out.size))
      clear l3 q3
      go_wp2_with fail
      go_ret
      exact ⟨rfl, L3.out⟩
set_option maxHeartbeats 4000000 in
set_option maxRecDepth 100000 in
theorem pref_ff (A B C : Option Addr) (cA cB cC n nm no : Nat) (sb sm so sp : ByteArray) (w : World) (hn : n ≤ 300) (hm : nm ≤ 300) (ho : no ≤ 300) (hc : n ≤ cA ∧ cA ≤ 9223372036854775807) (hs : so.size = no) (hsb : sb.size + sm.size ≤ 281474976710656) (hp : sp.toList ≠ [])
    (KP : Calls Tryd.prog 21 #[.slice A n cA] w fun e w' => ∃ v, e = .returned v ∧ (convert 35 9 v).run Tryd.prog w' = .ok (.string sp) w' ∧ Below w.heap.size w w')
    (KC : ∀ W : World, Below w.heap.size w W → (convert 35 9 (.slice A n cA)).run Tryd.prog W = .ok (.string sb) W ∧ (convert 35 9 (.slice B nm cB)).run Tryd.prog W = .ok (.string sm) W ∧ (convert 35 9 (.slice C no cC)).run Tryd.prog W = .ok (.string so) W) (KA : ∀ W : World, Below w.heap.size w W → Calls Tryd.prog 15 #[] W fun e w' => e = .returned (.bool true) ∧ Below W.heap.size W w')
    (b1 : Op.bytesLess (sb ++ sm).toList sp.toList = true) (b2 : Op.bytesLess so.toList sp.toList = false) (b3 : Op.bytesLess so.toList sb.toList = false) (hlen : n ≤ no) (b4 : ((so.extract 0 n).toList == sb.toList) = false) :
    Calls Tryd.prog 9 #[.slice A n cA, .slice B nm cB, .slice C no cC] w fun e w' => e = .returned (.bool true) ∧ Below w.heap.size w w' := by
  have HP := Lib.hid KP
  have HC := Lib.hid KC
  have HA := Lib.hid KA
  have hp1 : sp.toList.isEmpty = false := by simpa using hp
  have hp2 : (sp.toList == []) = false := by simpa using hp
  have hsz1 : sb.size + sm.size ≤ 9223372036854775807 := by omega
  have hsz2 : ¬ 281474976710656 < sb.size + sm.size := by omega
  have hsz3 : ¬ 9223372036854775807 < sb.size + sm.size := by omega
  have HS := Lib.hid hs
  clear KP KC KA hp hs
  go_enter Tryd.func9, Tryd.ntmps9
  go_wp2_with fail
  refine HP.out.mono ?_
  rintro e w1 ⟨v1, rfl, q1, l1⟩
  have L1 := Lib.hid l1
  clear l1
  go_wp2_with fail
  clear q1
  have D1 := Lib.hid (L1.out.drew)
  go_region_held_law (fun W => (convert 35 9 (.slice A n cA)).run Tryd.prog W = .ok (.string sb) W ∧ (convert 35 9 (.slice B nm cB)).run Tryd.prog W = .ok (.string sm) W ∧ (convert 35 9 (.slice C no cC)).run Tryd.prog W = .ok (.string so) W)
    (exact HC.out _ D1.out)
    (fail)
  all_goals
    have D2 := Lib.hid (D1.out.drew)
    have e1 : (n : Int) ≤ (so.size : Int) := by have := HS.out; omega
    have e2 : n ≤ so.size := by have := HS.out; omega
    go_wp2_with fail
    go_region_held_law (fun W => (convert 35 9 (.slice A n cA)).run Tryd.prog W = .ok (.string sb) W)
      (exact (HC.out _ D2.out).1)
      (fail)
    all_goals
      have q3 := (HC.out _ D2.out).1
      go_wp2_with fail
      refine (HA.out _ D2.out).mono ?_
      rintro e w3 ⟨rfl, l3⟩
      have L3 := Lib.hid (D2.out.trans (l3.mono D2.out.size))
      clear l3 q3
      go_wp2_with fail
      go_ret
      exact ⟨rfl, L3.out⟩
set_option maxHeartbeats 4000000 in
set_option maxRecDepth 100000 in
theorem pref_ts (A B C : Option Addr) (cA cB cC n nm no : Nat) (sb sm so sp : ByteArray) (w : World) (hn : n ≤ 300) (hm : nm ≤ 300) (ho : no ≤ 300) (hc : n ≤ cA ∧ cA ≤ 9223372036854775807) (hs : so.size = no) (hsb : sb.size + sm.size ≤ 281474976710656) (hp : sp.toList ≠ [])
    (KP : Calls Tryd.prog 21 #[.slice A n cA] w fun e w' => ∃ v, e = .returned v ∧ (convert 35 9 v).run Tryd.prog w' = .ok (.string sp) w' ∧ Below w.heap.size w w')
    (KC : ∀ W : World, Below w.heap.size w W → (convert 35 9 (.slice A n cA)).run Tryd.prog W = .ok (.string sb) W ∧ (convert 35 9 (.slice B nm cB)).run Tryd.prog W = .ok (.string sm) W ∧ (convert 35 9 (.slice C no cC)).run Tryd.prog W = .ok (.string so) W) (KA : ∀ W : World, Below w.heap.size w W → Calls Tryd.prog 15 #[] W fun e w' => e = .returned (.bool true) ∧ Below W.heap.size W w')
    (b1 : Op.bytesLess (sb ++ sm).toList sp.toList = true) (b2 : Op.bytesLess so.toList sp.toList = true) (b3 : Op.bytesLess so.toList sb.toList = true) (hlen : no < n) :
    Calls Tryd.prog 9 #[.slice A n cA, .slice B nm cB, .slice C no cC] w fun e w' => e = .returned (.bool true) ∧ Below w.heap.size w w' := by
  have HP := Lib.hid KP
  have HC := Lib.hid KC
  have HA := Lib.hid KA
  have hp1 : sp.toList.isEmpty = false := by simpa using hp
  have hp2 : (sp.toList == []) = false := by simpa using hp
  have hsz1 : sb.size + sm.size ≤ 9223372036854775807 := by omega
  have hsz2 : ¬ 281474976710656 < sb.size + sm.size := by omega
  have hsz3 : ¬ 9223372036854775807 < sb.size + sm.size := by omega
  have HS := Lib.hid hs
  clear KP KC KA hp hs
  go_enter Tryd.func9, Tryd.ntmps9
  go_wp2_with fail
  refine HP.out.mono ?_
  rintro e w1 ⟨v1, rfl, q1, l1⟩
  have L1 := Lib.hid l1
  clear l1
  go_wp2_with fail
  clear q1
  have D1 := Lib.hid (L1.out.drew)
  go_region_held_law (fun W => (convert 35 9 (.slice A n cA)).run Tryd.prog W = .ok (.string sb) W ∧ (convert 35 9 (.slice B nm cB)).run Tryd.prog W = .ok (.string sm) W ∧ (convert 35 9 (.slice C no cC)).run Tryd.prog W = .ok (.string so) W)
    (exact HC.out _ D1.out)
    (fail)
  all_goals
    have D2 := Lib.hid (D1.out.drew)
    have e1 : decide ((n : Int) ≤ (so.size : Int)) = false := decide_eq_false (by have := HS.out; omega)
    have e2 : (so.size : Int) < (n : Int) := by have := HS.out; omega
    have e3 : decide (n ≤ so.size) = false := decide_eq_false (by have := HS.out; omega)
    have e4 : decide (n ≤ no) = false := decide_eq_false (by omega)
    go_wp2_with fail
    go_quiet (fail)
    all_goals
      have D3 := Lib.hid (fun k => pref_dN (k := k) L1.out)
      have q3 := fun k => (HC.out _ (D3.out k)).1
      go_wp2_with fail
      refine (HA.out _ (D3.out _)).mono ?_
      rintro e w3 ⟨rfl, l3⟩
      have L3 := Lib.hid ((D3.out _).trans (l3.mono (D3.out _).size))
      clear l3 q3
      go_wp2_with fail
      go_ret
      exact ⟨rfl, L3.out⟩
set_option maxHeartbeats 4000000 in
set_option maxRecDepth 100000 in
theorem pref_fs (A B C : Option Addr) (cA cB cC n nm no : Nat) (sb sm so sp : ByteArray) (w : World) (hn : n ≤ 300) (hm : nm ≤ 300) (ho : no ≤ 300) (hc : n ≤ cA ∧ cA ≤ 9223372036854775807) (hs : so.size = no) (hsb : sb.size + sm.size ≤ 281474976710656) (hp : sp.toList ≠ [])
    (KP : Calls Tryd.prog 21 #[.slice A n cA] w fun e w' => ∃ v, e = .returned v ∧ (convert 35 9 v).run Tryd.prog w' = .ok (.string sp) w' ∧ Below w.heap.size w w')
    (KC : ∀ W : World, Below w.heap.size w W → (convert 35 9 (.slice A n cA)).run Tryd.prog W = .ok (.string sb) W ∧ (convert 35 9 (.slice B nm cB)).run Tryd.prog W = .ok (.string sm) W ∧ (convert 35 9 (.slice C no cC)).run Tryd.prog W = .ok (.string so) W) (KA : ∀ W : World, Below w.heap.size w W → Calls Tryd.prog 15 #[] W fun e w' => e = .returned (.bool true) ∧ Below W.heap.size W w')
    (b1 : Op.bytesLess (sb ++ sm).toList sp.toList = true) (b2 : Op.bytesLess so.toList sp.toList = false) (b3 : Op.bytesLess so.toList sb.toList = false) (hlen : no < n) :
    Calls Tryd.prog 9 #[.slice A n cA, .slice B nm cB, .slice C no cC] w fun e w' => e = .returned (.bool true) ∧ Below w.heap.size w w' := by
  have HP := Lib.hid KP
  have HC := Lib.hid KC
  have HA := Lib.hid KA
  have hp1 : sp.toList.isEmpty = false := by simpa using hp
  have hp2 : (sp.toList == []) = false := by simpa using hp
  have hsz1 : sb.size + sm.size ≤ 9223372036854775807 := by omega
  have hsz2 : ¬ 281474976710656 < sb.size + sm.size := by omega
  have hsz3 : ¬ 9223372036854775807 < sb.size + sm.size := by omega
  have HS := Lib.hid hs
  clear KP KC KA hp hs
  go_enter Tryd.func9, Tryd.ntmps9
  go_wp2_with fail
  refine HP.out.mono ?_
  rintro e w1 ⟨v1, rfl, q1, l1⟩
  have L1 := Lib.hid l1
  clear l1
  go_wp2_with fail
  clear q1
  have D1 := Lib.hid (L1.out.drew)
  go_region_held_law (fun W => (convert 35 9 (.slice A n cA)).run Tryd.prog W = .ok (.string sb) W ∧ (convert 35 9 (.slice B nm cB)).run Tryd.prog W = .ok (.string sm) W ∧ (convert 35 9 (.slice C no cC)).run Tryd.prog W = .ok (.string so) W)
    (exact HC.out _ D1.out)
    (fail)
  all_goals
    have D2 := Lib.hid (D1.out.drew)
    have e1 : decide ((n : Int) ≤ (so.size : Int)) = false := decide_eq_false (by have := HS.out; omega)
    have e2 : (so.size : Int) < (n : Int) := by have := HS.out; omega
    have e3 : decide (n ≤ so.size) = false := decide_eq_false (by have := HS.out; omega)
    have e4 : decide (n ≤ no) = false := decide_eq_false (by omega)
    go_wp2_with fail
    go_quiet (fail)
    all_goals
      have D3 := Lib.hid (fun k => pref_dN (k := k) L1.out)
      have q3 := fun k => (HC.out _ (D3.out k)).1
      go_wp2_with fail
      refine (HA.out _ (D3.out _)).mono ?_
      rintro e w3 ⟨rfl, l3⟩
      have L3 := Lib.hid ((D3.out _).trans (l3.mono (D3.out _).size))
      clear l3 q3
      go_wp2_with fail
      go_ret
      exact ⟨rfl, L3.out⟩
end Go.Proofs.YthcnkdlphbkbaaaDoor
