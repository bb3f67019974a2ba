/- num.Print. -/
import Derived.Test.YtoeddhkbifeamaaDoorNFormat
import Derived.Lib.TrimByte
namespace Go.Proofs.YtoeddhkbifeamaaDoor
open Go.RowKit
set_option linter.unusedVariables false

/-- The plain text of a number of parts m with a sign ahead. -/
def restL (r : Nat) : List UInt8 := if r = 0 then [] else 46 :: Lib.trimRightB ((Lib.decDigits (10000000 + r)).drop 1) 48
def printL (n : Int) : List UInt8 := (if n < 0 then [45] else []) ++ Lib.decDigits (n.natAbs / 10000000) ++ restL (n.natAbs % 10000000)
def printS (n : Int) : List UInt8 := if heldB n = true then printL n else []
def printE (n : Int) : Int := if heldB n = true then 0 else 2

theorem magnitude_nat (n : Int) (m : Nat) (hm : m = n.natAbs) (w : World) (h : heldB n = true) : Calls Tryd.prog 26 #[.int .i64 n] w fun e w' => e = .returned (.int .u64 (m : Int)) ∧ w = w' := by
  subst hm
  exact magnitude_any n w h
theorem dec_len (u : Nat) (h : u < 18446744073709551616) : 1 ≤ (Lib.decDigits u).length ∧ (Lib.decDigits u).length ≤ 20 := by
  rw [Lib.decDigits_length]
  refine ⟨Lib.nDigits_pos u, ?_⟩
  by_cases h0 : u = 0
  · subst h0; rw [Lib.nDigits_small (by omega)]; omega
  · have := Lib.numDigits_eq u (by omega) h
    split at this <;> omega

theorem trimR_any (l : List UInt8) (w : World) (h : l.length ≤ 9223372036854775807) :
    Calls Tryd.prog 28 #[.string ⟨l.toArray⟩, .string ⟨#[48]⟩] w fun e w' => e = .returned (.string ⟨(Lib.trimRightB l 48).toArray⟩) ∧ w = w' := by
  refine (Tryd.strings_TrimRight_one ⟨l.toArray⟩ 48 (by decide) w (by rw [Lib.size_mk]; exact h)).mono ?_
  rintro e w' ⟨rfl, rfl⟩
  exact ⟨by simp, rfl⟩
theorem trimL_any (l : List UInt8) (w : World) :
    Calls Tryd.prog 39 #[.string ⟨l.toArray⟩, .string ⟨#[48]⟩] w fun e w' => e = .returned (.string ⟨(Lib.trimLeftB l 48).toArray⟩) ∧ w = w' := by
  refine (Tryd.strings_TrimLeft_one ⟨l.toArray⟩ 48 (by decide) w).mono ?_
  rintro e w' ⟨rfl, rfl⟩
  exact ⟨by simp, rfl⟩
theorem trimR_le (l : List UInt8) (c : UInt8) : (Lib.trimRightB l c).length ≤ l.length := by
  unfold Lib.trimRightB
  rw [List.length_reverse]
  exact Nat.le_trans (List.dropWhile_sublist _).length_le (by simp)
theorem drop_one_mk (Z : List UInt8) : (⟨Z.toArray⟩ : ByteArray).extract 1 Z.length = ⟨(Z.drop 1).toArray⟩ := by
  rw [Lib.extract_mk, List.take_of_length_le (by simp)]
theorem ret_se {l l' : List UInt8} {a : ByteArray} {e : Int} (h : a = ⟨l.toArray⟩) (h2 : l = l') : Ending.returned (.tuple #[.string a, .int .i64 e]) = .returned (.tuple #[.string ⟨l'.toArray⟩, .int .i64 e]) := by rw [h, h2]

set_option maxHeartbeats 1600000 in
set_option maxRecDepth 100000 in
theorem print_neg (n : Int) (w : World) (htab : TabW w) (hh : heldB n = true) (hn : n < 0) (h0 : n.natAbs % 10000000 ≠ 0) :
    Calls Tryd.prog 14 #[.int .i64 n] w fun e w' => e = .returned (.tuple #[.string ⟨(printL n).toArray⟩, .int .i64 0]) ∧ Below w.heap.size w w' := by
  have HT := Lib.hid htab
  have hB := heldB_yes hh
  obtain ⟨m, hm⟩ : ∃ m, m = n.natAbs := ⟨_, rfl⟩
  obtain ⟨q, hq⟩ : ∃ q, q = m / 10000000 := ⟨_, rfl⟩
  obtain ⟨r, hr⟩ : ∃ r, r = m % 10000000 := ⟨_, rfl⟩
  obtain ⟨z, hz⟩ : ∃ z, z = 10000000 + r := ⟨_, rfl⟩
  have hL : printL n = [45] ++ Lib.decDigits q ++ 46 :: Lib.trimRightB ((Lib.decDigits z).drop 1) 48 := by
    unfold printL restL
    rw [if_pos hn, ← hm, ← hr, ← hq, if_neg (by omega), ← hz]
    try rfl
  rw [hL]
  have CM := Lib.hid fun W => magnitude_nat n m hm W hh
  have e1 : (m : Int) / 10000000 = (q : Int) := by omega
  have e2 : (m : Int) % 10000000 = (r : Int) := by omega
  have e3 : 10000000 + (r : Int) = (z : Int) := by omega
  have m1 : 0 ≤ (m : Int) := by omega
  have m2 : (m : Int) ≤ 9000000000000000000 := by omega
  have r3 : (r : Int) < 10000000 := by omega
  have hr0 : ((r : Int) == 0) = false := by rw [← hm, ← hr] at h0; simp; omega
  have hqb : q < 18446744073709551616 := by omega
  have hzb : z < 18446744073709551616 := by omega
  have hd1 := dec_len q hqb
  have hd2 := dec_len z hzb
  obtain ⟨D, hD⟩ : ∃ D, D = Lib.decDigits q := ⟨_, rfl⟩
  obtain ⟨Z, hZ⟩ : ∃ Z, Z = Lib.decDigits z := ⟨_, rfl⟩
  have C1 := fun W h => format_any q W hqb h
  have C2 := fun W h => format_any z W hzb h
  rw [← hD] at hd1 C1 ⊢
  rw [← hZ] at hd2 C2 ⊢
  have hex := drop_one_mk Z
  obtain ⟨Y, hY⟩ : ∃ Y, Y = Z.drop 1 := ⟨_, rfl⟩
  rw [← hY] at hex ⊢
  have hY2 : Y.length ≤ 20 := by rw [hY, List.length_drop]; omega
  have C3 := fun W => trimR_any Y W (by omega)
  have hT2 := trimR_le Y 48
  obtain ⟨T, hT⟩ : ∃ T, T = Lib.trimRightB Y 48 := ⟨_, rfl⟩
  rw [← hT] at C3 hT2 ⊢
  have K1 := Lib.hid C1
  have K2 := Lib.hid C2
  have K3 := Lib.hid C3
  clear htab hB hm hq hr hz h0 hD hZ hY hT C1 C2 C3 hL
  go_enter Tryd.func14, Tryd.ntmps14
  go_wp2_with (first
    | (go_at_call 25; refine (held_any _ _).mono ?_; rintro e w' ⟨rfl, rfl⟩)
    | (go_at_call 26; refine (CM.out _).mono ?_; rintro e w' ⟨rfl, rfl⟩))
  refine (K1.out _ HT.out).mono ?_
  rintro e w1 ⟨rfl, hb1⟩
  go_wp2_with fail
  refine (K2.out _ (HT.out.below hb1)).mono ?_
  rintro e w2 ⟨rfl, hb2⟩
  go_wp2_with fail
  refine (K3.out _).mono ?_
  rintro e w3 ⟨rfl, rfl⟩
  go_wp2
  go_ret2
  refine ⟨ret_se (l := [45] ++ D ++ 46 :: T) ?_ rfl, hb1.trans (hb2.mono hb1.size)⟩
  apply ByteArray.ext
  simp
set_option maxHeartbeats 1600000 in
set_option maxRecDepth 100000 in
theorem print_pos (n : Int) (w : World) (htab : TabW w) (hh : heldB n = true) (hn : ¬ n < 0) (h0 : n.natAbs % 10000000 ≠ 0) :
    Calls Tryd.prog 14 #[.int .i64 n] w fun e w' => e = .returned (.tuple #[.string ⟨(printL n).toArray⟩, .int .i64 0]) ∧ Below w.heap.size w w' := by
  have HT := Lib.hid htab
  have hB := heldB_yes hh
  obtain ⟨m, hm⟩ : ∃ m, m = n.natAbs := ⟨_, rfl⟩
  obtain ⟨q, hq⟩ : ∃ q, q = m / 10000000 := ⟨_, rfl⟩
  obtain ⟨r, hr⟩ : ∃ r, r = m % 10000000 := ⟨_, rfl⟩
  obtain ⟨z, hz⟩ : ∃ z, z = 10000000 + r := ⟨_, rfl⟩
  have hL : printL n =  Lib.decDigits q ++ 46 :: Lib.trimRightB ((Lib.decDigits z).drop 1) 48 := by
    unfold printL restL
    rw [if_neg hn, ← hm, ← hr, ← hq, if_neg (by omega), ← hz]
    try rfl
  rw [hL]
  have CM := Lib.hid fun W => magnitude_nat n m hm W hh
  have e1 : (m : Int) / 10000000 = (q : Int) := by omega
  have e2 : (m : Int) % 10000000 = (r : Int) := by omega
  have e3 : 10000000 + (r : Int) = (z : Int) := by omega
  have m1 : 0 ≤ (m : Int) := by omega
  have m2 : (m : Int) ≤ 9000000000000000000 := by omega
  have r3 : (r : Int) < 10000000 := by omega
  have hr0 : ((r : Int) == 0) = false := by rw [← hm, ← hr] at h0; simp; omega
  have hqb : q < 18446744073709551616 := by omega
  have hzb : z < 18446744073709551616 := by omega
  have hd1 := dec_len q hqb
  have hd2 := dec_len z hzb
  obtain ⟨D, hD⟩ : ∃ D, D = Lib.decDigits q := ⟨_, rfl⟩
  obtain ⟨Z, hZ⟩ : ∃ Z, Z = Lib.decDigits z := ⟨_, rfl⟩
  have C1 := fun W h => format_any q W hqb h
  have C2 := fun W h => format_any z W hzb h
  rw [← hD] at hd1 C1 ⊢
  rw [← hZ] at hd2 C2 ⊢
  have hex := drop_one_mk Z
  obtain ⟨Y, hY⟩ : ∃ Y, Y = Z.drop 1 := ⟨_, rfl⟩
  rw [← hY] at hex ⊢
  have hY2 : Y.length ≤ 20 := by rw [hY, List.length_drop]; omega
  have C3 := fun W => trimR_any Y W (by omega)
  have hT2 := trimR_le Y 48
  obtain ⟨T, hT⟩ : ∃ T, T = Lib.trimRightB Y 48 := ⟨_, rfl⟩
  rw [← hT] at C3 hT2 ⊢
  have K1 := Lib.hid C1
  have K2 := Lib.hid C2
  have K3 := Lib.hid C3
  have hn2 : decide (n < 0) = false := by simpa using hn
  clear hn htab hB hm hq hr hz h0 hD hZ hY hT C1 C2 C3 hL
  go_enter Tryd.func14, Tryd.ntmps14
  go_wp2_with (first
    | (go_at_call 25; refine (held_any _ _).mono ?_; rintro e w' ⟨rfl, rfl⟩)
    | (go_at_call 26; refine (CM.out _).mono ?_; rintro e w' ⟨rfl, rfl⟩))
  refine (K1.out _ HT.out).mono ?_
  rintro e w1 ⟨rfl, hb1⟩
  go_wp2_with fail
  refine (K2.out _ (HT.out.below hb1)).mono ?_
  rintro e w2 ⟨rfl, hb2⟩
  go_wp2_with fail
  refine (K3.out _).mono ?_
  rintro e w3 ⟨rfl, rfl⟩
  go_wp2
  go_ret2
  refine ⟨ret_se (l :=  D ++ 46 :: T) ?_ rfl, hb1.trans (hb2.mono hb1.size)⟩
  apply ByteArray.ext
  simp
set_option maxHeartbeats 1600000 in
set_option maxRecDepth 100000 in
theorem print_neg0 (n : Int) (w : World) (htab : TabW w) (hh : heldB n = true) (hn : n < 0) (h0 : n.natAbs % 10000000 = 0) :
    Calls Tryd.prog 14 #[.int .i64 n] w fun e w' => e = .returned (.tuple #[.string ⟨(printL n).toArray⟩, .int .i64 0]) ∧ Below w.heap.size w w' := by
  have HT := Lib.hid htab
  have hB := heldB_yes hh
  obtain ⟨m, hm⟩ : ∃ m, m = n.natAbs := ⟨_, rfl⟩
  obtain ⟨q, hq⟩ : ∃ q, q = m / 10000000 := ⟨_, rfl⟩
  have hL : printL n = [45] ++ Lib.decDigits q := by
    unfold printL restL
    rw [if_pos hn, if_pos h0, ← hm, ← hq]
    simp
  rw [hL]
  have CM := Lib.hid fun W => magnitude_nat n m hm W hh
  have e1 : (m : Int) / 10000000 = (q : Int) := by omega
  obtain ⟨r, hr⟩ : ∃ r, r = m % 10000000 := ⟨_, rfl⟩
  have e2 : (m : Int) % 10000000 = (r : Int) := by omega
  have hr0 : ((r : Int) == 0) = true := by simp; omega
  have m1 : 0 ≤ (m : Int) := by omega
  have m2 : (m : Int) ≤ 9000000000000000000 := by omega
  have hqb : q < 18446744073709551616 := by omega
  have hd1 := dec_len q hqb
  obtain ⟨D, hD⟩ : ∃ D, D = Lib.decDigits q := ⟨_, rfl⟩
  have C1 := fun W h => format_any q W hqb h
  rw [← hD] at hd1 C1 ⊢
  have K1 := Lib.hid C1
  clear htab hB hm hq hr h0 hD C1 hL
  go_enter Tryd.func14, Tryd.ntmps14
  go_wp2_with (first
    | (go_at_call 25; refine (held_any _ _).mono ?_; rintro e w' ⟨rfl, rfl⟩)
    | (go_at_call 26; refine (CM.out _).mono ?_; rintro e w' ⟨rfl, rfl⟩))
  refine (K1.out _ HT.out).mono ?_
  rintro e w1 ⟨rfl, hb1⟩
  go_wp2_with fail
  go_ret2
  refine ⟨ret_se (l := [45] ++ D) ?_ rfl, hb1⟩
  apply ByteArray.ext
  simp
set_option maxHeartbeats 1600000 in
set_option maxRecDepth 100000 in
theorem print_pos0 (n : Int) (w : World) (htab : TabW w) (hh : heldB n = true) (hn : ¬ n < 0) (h0 : n.natAbs % 10000000 = 0) :
    Calls Tryd.prog 14 #[.int .i64 n] w fun e w' => e = .returned (.tuple #[.string ⟨(printL n).toArray⟩, .int .i64 0]) ∧ Below w.heap.size w w' := by
  have HT := Lib.hid htab
  have hB := heldB_yes hh
  obtain ⟨m, hm⟩ : ∃ m, m = n.natAbs := ⟨_, rfl⟩
  obtain ⟨q, hq⟩ : ∃ q, q = m / 10000000 := ⟨_, rfl⟩
  have hL : printL n =  Lib.decDigits q := by
    unfold printL restL
    rw [if_neg hn, if_pos h0, ← hm, ← hq]
    simp
  rw [hL]
  have CM := Lib.hid fun W => magnitude_nat n m hm W hh
  have e1 : (m : Int) / 10000000 = (q : Int) := by omega
  obtain ⟨r, hr⟩ : ∃ r, r = m % 10000000 := ⟨_, rfl⟩
  have e2 : (m : Int) % 10000000 = (r : Int) := by omega
  have hr0 : ((r : Int) == 0) = true := by simp; omega
  have m1 : 0 ≤ (m : Int) := by omega
  have m2 : (m : Int) ≤ 9000000000000000000 := by omega
  have hqb : q < 18446744073709551616 := by omega
  have hd1 := dec_len q hqb
  obtain ⟨D, hD⟩ : ∃ D, D = Lib.decDigits q := ⟨_, rfl⟩
  have C1 := fun W h => format_any q W hqb h
  rw [← hD] at hd1 C1 ⊢
  have K1 := Lib.hid C1
  have hn2 : decide (n < 0) = false := by simpa using hn
  clear hn htab hB hm hq hr h0 hD C1 hL
  go_enter Tryd.func14, Tryd.ntmps14
  go_wp2_with (first
    | (go_at_call 25; refine (held_any _ _).mono ?_; rintro e w' ⟨rfl, rfl⟩)
    | (go_at_call 26; refine (CM.out _).mono ?_; rintro e w' ⟨rfl, rfl⟩))
  refine (K1.out _ HT.out).mono ?_
  rintro e w1 ⟨rfl, hb1⟩
  go_wp2_with fail
  go_ret2
  refine ⟨ret_se (l :=  D) ?_ rfl, hb1⟩
  apply ByteArray.ext
  simp

theorem print_any (n : Int) (w : World) (htab : TabW w) :
    Calls Tryd.prog 14 #[.int .i64 n] w fun e w' => e = .returned (.tuple #[.string ⟨(printS n).toArray⟩, .int .i64 (printE n)]) ∧ Below w.heap.size w w' := by
  cases hh : heldB n
  · have e1 : printS n = [] := if_neg (by rw [hh]; simp)
    have e2 : printE n = 2 := if_neg (by rw [hh]; simp)
    rw [e1, e2]
    clear e1 e2 htab
    go_enter Tryd.func14, Tryd.ntmps14
    go_wp2_with (go_at_call 25; refine (held_any _ _).mono ?_; rintro e w' ⟨rfl, rfl⟩)
    go_ret2
    exact ⟨rfl, Below.refl _ _⟩
  · have e1 : printS n = printL n := if_pos hh
    have e2 : printE n = 0 := if_pos hh
    rw [e1, e2]
    by_cases hn : n < 0 <;> by_cases h0 : n.natAbs % 10000000 = 0
    · exact print_neg0 n w htab hh hn h0
    · exact print_neg n w htab hh hn h0
    · exact print_pos0 n w htab hh hn h0
    · exact print_pos n w htab hh hn h0
end Go.Proofs.YtoeddhkbifeamaaDoor
