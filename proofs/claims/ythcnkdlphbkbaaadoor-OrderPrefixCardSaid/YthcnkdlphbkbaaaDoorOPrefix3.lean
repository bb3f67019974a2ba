/- OrderPrefix: for every bytes. -/
import Derived.Test.YthcnkdlphbkbaaaDoorOPrefWalk2
import Derived.Test.YthcnkdlphbkbaaaDoorVCount
namespace Go.Proofs.YthcnkdlphbkbaaaDoor
open Go.RowKit
set_option linter.unusedVariables false

def listF (F : Nat → Nat) (n : Nat) : List UInt8 := (List.range n).map fun i => UInt8.ofNat (F i)
theorem listF_len (F : Nat → Nat) (n : Nat) : (listF F n).length = n := by simp [listF]
theorem bytes_list {w : World} {A : Option Addr} {n : Nat} {F : Nat → Nat} (h : Bytes w A n F) : Bytes w A (listF F n).length (lF (listF F n)) := by
  rw [listF_len]
  refine h.congr fun i hi => ?_
  unfold lF listF
  rw [List.getD_eq_getElem?_getD, List.getElem?_map, List.getElem?_range hi]
  have := h.2.1 i hi
  simp
  omega
theorem app_list (l m : List UInt8) : (⟨l.toArray⟩ : ByteArray) ++ ⟨m.toArray⟩ = ⟨(l ++ m).toArray⟩ := by
  show ByteArray.append _ _ = _
  have h : ((⟨l.toArray⟩ : ByteArray) ++ ⟨m.toArray⟩).data = l.toArray ++ m.toArray := ByteArray.data_append
  have h2 : ((⟨l.toArray⟩ : ByteArray) ++ ⟨m.toArray⟩).data = (l ++ m).toArray := by rw [h]; simp
  exact congrArg ByteArray.mk h2
set_option maxHeartbeats 4000000 in
set_option maxRecDepth 100000 in
theorem pref_long (A B C : Option Addr) (cA cB cC n m o : Nat) (w : World) (h : 300 < n ∨ (n ≤ 300 ∧ 300 < m) ∨ (n ≤ 300 ∧ m ≤ 300 ∧ 300 < o)) (hn : n ≤ 9223372036854775807) (hm : m ≤ 9223372036854775807) (ho : o ≤ 9223372036854775807) :
    Calls Tryd.prog 9 #[.slice A n cA, .slice B m cB, .slice C o cC] w fun e w' => e = .returned (.bool true) ∧ Below w.heap.size w w' := by
  rcases h with h | ⟨h1, h⟩ | ⟨h1, h2, h⟩
  all_goals
    go_enter Tryd.func9, Tryd.ntmps9
    go_wp2_with fail
    go_ret
    exact ⟨rfl, Below.refl _ _⟩
theorem orderPrefix_list (A B C : Option Addr) (cA cB cC : Nat) (l m o : List UInt8) (w : World) (hA : Bytes w A l.length (lF l)) (hB : Bytes w B m.length (lF m)) (hC : Bytes w C o.length (lF o)) (hl : l.length ≤ 300) (hm : m.length ≤ 300) (ho : o.length ≤ 300) (hc : l.length ≤ cA ∧ cA ≤ 9223372036854775807) (hT : TabU w) :
    Calls Tryd.prog 9 #[.slice A l.length cA, .slice B m.length cB, .slice C o.length cC] w fun e w' => e = .returned (.bool true) ∧ Below w.heap.size w w' := by
  by_cases h0 : stripN l l.length = 0
  · exact pref_none A B C cA cB cC l m o w hA hl hm ho hc hT h0
  · have KP : Calls Tryd.prog 21 #[.slice A l.length cA] w fun e w' => ∃ v, e = .returned v ∧ (convert 35 9 v).run Tryd.prog w' = .ok (.string ⟨(prefixL l).toArray⟩) w' ∧ Below w.heap.size w w' :=
      (Prefix_any A cA l w hA (by omega) hc).mono fun e w' ⟨v, e1, e2, e3⟩ => ⟨v, e1, conv_own e2, e3⟩
    have KC : ∀ W : World, Below w.heap.size w W → (convert 35 9 (.slice A l.length cA)).run Tryd.prog W = .ok (.string ⟨l.toArray⟩) W ∧ (convert 35 9 (.slice B m.length cB)).run Tryd.prog W = .ok (.string ⟨m.toArray⟩) W ∧ (convert 35 9 (.slice C o.length cC)).run Tryd.prog W = .ok (.string ⟨o.toArray⟩) W :=
      fun W hb => ⟨conv_bytes cA (hA.below hb (Nat.le_refl _)), conv_bytes cB (hB.below hb (Nat.le_refl _)), conv_bytes cC (hC.below hb (Nat.le_refl _))⟩
    have KA : ∀ W : World, Below w.heap.size w W → Calls Tryd.prog 15 #[] W fun e w' => e = .returned (.bool true) ∧ Below W.heap.size W w' := fun W hb => awake_any W (hT.below hb)
    have hp : (⟨(prefixL l).toArray⟩ : ByteArray).toList ≠ [] := by
      rw [ByteArray.toList_eq]
      unfold prefixL
      rw [if_neg h0]
      simp
    have law := prefix_law l h0
    have b1 : Op.bytesLess ((⟨l.toArray⟩ : ByteArray) ++ ⟨m.toArray⟩).toList (⟨(prefixL l).toArray⟩ : ByteArray).toList = true := by
      rw [app_list, less_list, law]
      have : begB l (l ++ m) = true := decide_eq_true (List.prefix_append l m)
      rw [this]; simp
    have b2 : Op.bytesLess (⟨o.toArray⟩ : ByteArray).toList (⟨(prefixL l).toArray⟩ : ByteArray).toList = (ltL o l || begB l o) := by rw [less_list, law]
    have b3 : Op.bytesLess (⟨o.toArray⟩ : ByteArray).toList (⟨l.toArray⟩ : ByteArray).toList = ltL o l := less_list o l
    have hs := str_len o
    have hsb : (⟨l.toArray⟩ : ByteArray).size + (⟨m.toArray⟩ : ByteArray).size ≤ 281474976710656 := by rw [str_len, str_len]; omega
    by_cases hlen : l.length ≤ o.length
    · have b4 : (((⟨o.toArray⟩ : ByteArray).extract 0 l.length).toList == (⟨l.toArray⟩ : ByteArray).toList) = begB l o := by rw [extract_list, ba_list, begB_take]
      cases h3 : ltL o l <;> cases hb : begB l o <;> rw [h3] at b2 b3 <;> rw [hb] at b2 b4
      · exact pref_ff A B C cA cB cC _ _ _ _ _ _ _ w hl hm ho hc hs hsb hp KP KC KA b1 b2 b3 hlen b4
      · exact pref_ft A B C cA cB cC _ _ _ _ _ _ _ w hl hm ho hc hs hsb hp KP KC KA b1 b2 b3 hlen b4
      · exact pref_tf A B C cA cB cC _ _ _ _ _ _ _ w hl hm ho hc hs hsb hp KP KC KA b1 b2 b3 hlen b4
      · exact pref_tt A B C cA cB cC _ _ _ _ _ _ _ w hl hm ho hc hs hsb hp KP KC KA b1 b2 b3 hlen b4
    · have hb := begB_len (l := l) (o := o) (by omega)
      rw [hb] at b2
      cases h3 : ltL o l <;> rw [h3] at b2 b3
      · exact pref_fs A B C cA cB cC _ _ _ _ _ _ _ w hl hm ho hc hs hsb hp KP KC KA b1 b2 b3 (by omega)
      · exact pref_ts A B C cA cB cC _ _ _ _ _ _ _ w hl hm ho hc hs hsb hp KP KC KA b1 b2 b3 (by omega)
theorem orderPrefix_walk (A B C : Option Addr) (n m o cA cB cC : Nat) (F G K : Nat → Nat) (w : World) (hA : Bytes w A n F) (hB : Bytes w B m G) (hC : Bytes w C o K) (hc : n ≤ cA ∧ cA ≤ 9223372036854775807) (hT : TabU w) :
    Calls Tryd.prog 9 #[.slice A n cA, .slice B m cB, .slice C o cC] w fun e w' => e = .returned (.bool true) ∧ Below w.heap.size w w' := by
  by_cases h : 300 < n ∨ (n ≤ 300 ∧ 300 < m) ∨ (n ≤ 300 ∧ m ≤ 300 ∧ 300 < o)
  · exact pref_long A B C cA cB cC n m o w h hA.1 hB.1 hC.1
  · have := orderPrefix_list A B C cA cB cC (listF F n) (listF G m) (listF K o) w (bytes_list hA) (bytes_list hB) (bytes_list hC) (by rw [listF_len]; omega) (by rw [listF_len]; omega) (by rw [listF_len]; omega) (by rw [listF_len]; exact hc) hT
    rwa [listF_len, listF_len, listF_len] at this
end Go.Proofs.YthcnkdlphbkbaaaDoor
