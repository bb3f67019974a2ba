/- NumBack: the walk. -/
import Derived.Test.YtoeddhkbifeamaaDoorNBackM
import Derived.Test.YtoeddhkbifeamaaDoorNLaws
namespace Go.Proofs.YtoeddhkbifeamaaDoor
open Go.RowKit
set_option linter.unusedVariables false

def Print_ (a : Int) (S : ByteArray) (e : Int) : Prop := ∀ w, TabW w → Calls Tryd.prog 14 #[.int .i64 a] w fun r w' => r = .returned (.tuple #[.string S, .int .i64 e]) ∧ Below w.heap.size w w'
theorem print_yes (a : Int) (h : heldB a = true) (S : ByteArray) (hS : S = ⟨(printL a).toArray⟩) : Print_ a S 0 := fun w ht => by
  have := print_any a w ht
  rw [show printS a = printL a from if_pos h, show printE a = 0 from if_pos h, ← hS] at this
  exact this
theorem print_no (a : Int) (h : heldB a = false) : Print_ a ⟨#[]⟩ 2 := fun w ht => by
  have := print_any a w ht
  rw [show printS a = [] from if_neg (by rw [h]; simp), show printE a = 2 from if_neg (by rw [h]; simp)] at this
  exact this
theorem printed_size (a : Int) (h : heldB a = true) (S : ByteArray) (hS : S = ⟨(printL a).toArray⟩) : S.size ≤ 9223372036854775807 := by
  rw [hS, Lib.size_mk]
  have h1 := dec_len (a.natAbs / 10000000) (by have := heldB_yes h; omega)
  have h2 : (restL (a.natAbs % 10000000)).length ≤ 8 := by
    by_cases h0 : a.natAbs % 10000000 = 0
    · rw [show restL (a.natAbs % 10000000) = [] from if_pos h0]; simp
    · obtain ⟨R, hR, _, _, hl, _⟩ := rest_facts (a.natAbs % 10000000) h0 (Nat.mod_lt _ (by omega))
      rw [hR]; simp; omega
  unfold printL
  rw [List.length_append, List.length_append]
  have : (if a < 0 then [45] else ([] : List UInt8)).length ≤ 1 := by split <;> simp
  omega
set_option maxHeartbeats 4000000 in
set_option maxRecDepth 100000 in
theorem numBack_no (a b : Int) (T : ByteArray) (f : Int) (h : heldB a = false) (K2 : Print_ b T f) (w : World) (ht : TabW w) :
    Calls Tryd.prog 6 #[.int .i64 a, .int .i64 b] w fun r w' => r = .returned (.bool true) ∧ Below w.heap.size w w' := by
  have H := Lib.hid ht
  have H1 := Lib.hid (print_no a h)
  have H2 := Lib.hid K2
  have hor := heldB_no h
  clear ht K2 h
  rcases hor with h1 | h1
  · have h2 : ¬ 9000000000000000000 < a := by omega
    go_enter Tryd.func6, Tryd.ntmps6
    go_wp2_with fail
    refine (H1.out _ H.out).mono ?_
    rintro _ w1 ⟨rfl, l1⟩
    have L1 := Lib.hid l1
    clear l1
    go_wp2_with fail
    refine (H2.out _ (H.out.below L1.out)).mono ?_
    rintro _ w2 ⟨rfl, l2⟩
    have L2 := Lib.hid (L1.out.trans (l2.mono L1.out.size))
    clear l2
    go_wp2_with fail
    refine (awake_any _ (H.out.below L2.out)).mono ?_
    rintro _ w3 ⟨rfl, l3⟩
    have L3 := Lib.hid (L2.out.trans (l3.mono L2.out.size))
    clear l3
    go_wp2
    go_ret
    exact ⟨rfl, L3.out⟩
  · go_enter Tryd.func6, Tryd.ntmps6
    go_wp2_with fail
    refine (H1.out _ H.out).mono ?_
    rintro _ w1 ⟨rfl, l1⟩
    have L1 := Lib.hid l1
    clear l1
    go_wp2_with fail
    refine (H2.out _ (H.out.below L1.out)).mono ?_
    rintro _ w2 ⟨rfl, l2⟩
    have L2 := Lib.hid (L1.out.trans (l2.mono L1.out.size))
    clear l2
    go_wp2_with fail
    refine (awake_any _ (H.out.below L2.out)).mono ?_
    rintro _ w3 ⟨rfl, l3⟩
    have L3 := Lib.hid (L2.out.trans (l3.mono L2.out.size))
    clear l3
    go_wp2
    go_ret
    exact ⟨rfl, L3.out⟩
set_option maxHeartbeats 4000000 in
set_option maxRecDepth 100000 in
theorem numBack_yes (a b : Int) (S T : ByteArray) (f : Int) (h : heldB a = true) (hS : S = ⟨(printL a).toArray⟩) (K2 : Print_ b T f) (hor : f = 2 ∨ (f = 0 ∧ (S.toList == T.toList) = (a == b))) (w : World) (ht : TabW w) :
    Calls Tryd.prog 6 #[.int .i64 a, .int .i64 b] w fun r w' => r = .returned (.bool true) ∧ Below w.heap.size w w' := by
  have hsz := printed_size a h S hS
  obtain ⟨p1, p2, p3⟩ := back_all a h S (by rw [hS, mk_list])
  have H := Lib.hid ht
  have H1 := Lib.hid (print_yes a h S hS)
  have H2 := Lib.hid K2
  have H3 := Lib.hid fun W => parse_any S W hsz
  have H4 := Lib.hid fun W => scan_any S W hsz
  rw [p1, p2] at H3
  rw [p3] at H4
  have q1 : ((S.size : Int) == (S.size : Int)) = true := by simp
  have q2 : (a == a) = true := by simp
  clear ht K2 h p1 p2 p3 hS
  rcases hor with rfl | hor
  · go_enter Tryd.func6, Tryd.ntmps6
    go_wp2_with fail
    refine (H1.out _ H.out).mono ?_
    rintro _ w1 ⟨rfl, l1⟩
    have L1 := Lib.hid l1
    clear l1
    go_wp2_with fail
    refine (H2.out _ (H.out.below L1.out)).mono ?_
    rintro _ w2 ⟨rfl, l2⟩
    have L2 := Lib.hid (L1.out.trans (l2.mono L1.out.size))
    clear l2
    go_wp2_with fail
    refine (H3.out _).mono ?_
    rintro _ w3 ⟨rfl, l3⟩
    have L3 := Lib.hid (L2.out.trans (l3.mono L2.out.size))
    clear l3
    go_wp2_with fail
    refine (H4.out _).mono ?_
    rintro _ w4 ⟨rfl, l4⟩
    have L4 := Lib.hid (L3.out.trans (l4.mono L3.out.size))
    clear l4
    go_wp2_with fail
    refine (awake_any _ (H.out.below L4.out)).mono ?_
    rintro _ w5 ⟨rfl, l5⟩
    have L5 := Lib.hid (L4.out.trans (l5.mono L4.out.size))
    clear l5
    go_wp2
    go_ret
    exact ⟨rfl, L5.out⟩
  · obtain ⟨rfl, q4⟩ := hor
    go_enter Tryd.func6, Tryd.ntmps6
    go_wp2_with fail
    refine (H1.out _ H.out).mono ?_
    rintro _ w1 ⟨rfl, l1⟩
    have L1 := Lib.hid l1
    clear l1
    go_wp2_with fail
    refine (H2.out _ (H.out.below L1.out)).mono ?_
    rintro _ w2 ⟨rfl, l2⟩
    have L2 := Lib.hid (L1.out.trans (l2.mono L1.out.size))
    clear l2
    go_wp2_with fail
    refine (H3.out _).mono ?_
    rintro _ w3 ⟨rfl, l3⟩
    have L3 := Lib.hid (L2.out.trans (l3.mono L2.out.size))
    clear l3
    go_wp2_with fail
    refine (H4.out _).mono ?_
    rintro _ w4 ⟨rfl, l4⟩
    have L4 := Lib.hid (L3.out.trans (l4.mono L3.out.size))
    clear l4
    go_wp2_with fail
    refine (awake_any _ (H.out.below L4.out)).mono ?_
    rintro _ w5 ⟨rfl, l5⟩
    have L5 := Lib.hid (L4.out.trans (l5.mono L4.out.size))
    clear l5
    go_wp2
    go_ret
    exact ⟨rfl, L5.out⟩
theorem numBack_walk (a b : Int) (w : World) (ht : TabW w) :
    Calls Tryd.prog 6 #[.int .i64 a, .int .i64 b] w fun r w' => r = .returned (.bool true) ∧ Below w.heap.size w w' := by
  cases ha : heldB a
  · cases hb : heldB b
    · exact numBack_no a b _ _ ha (print_no b hb) w ht
    · exact numBack_no a b _ _ ha (print_yes b hb _ rfl) w ht
  · cases hb : heldB b
    · exact numBack_yes a b _ _ _ ha rfl (print_no b hb) (.inl rfl) w ht
    · refine numBack_yes a b _ _ _ ha rfl (print_yes b hb _ rfl) (.inr ⟨rfl, ?_⟩) w ht
      rw [Lib.toList_data, Lib.toList_data, mk_list, mk_list]
      by_cases e : a = b
      · subst e; simp
      · have : printL a ≠ printL b := fun h => e (print_inj a b ha hb h)
        rw [beq_eq_false_iff_ne.2 this, beq_eq_false_iff_ne.2 e]
end Go.Proofs.YtoeddhkbifeamaaDoor
