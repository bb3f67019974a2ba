/- The document's Print. -/
import Derived.Test.YtoeddhkbifeamaaDoorNRefPrint
import Derived.Test.YtoeddhkbifeamaaDoorNBackM
import Derived.Deep.RegionHeld3
import Derived.LoopTactic
namespace Go.Proofs.YtoeddhkbifeamaaDoor
open Go.RowKit
set_option linter.unusedVariables false

theorem last_is (S : ByteArray) (h : S.size - 1 < S.size) (hc : S[S.size - 1] = 48) : Lib.trimRightB (S.extract 0 (S.size - 1)).data.toList 48 = Lib.trimRightB S.data.toList 48 := by
  have hl : S.data.toList = S.data.toList.take (S.size - 1) ++ [48] := by
    have := take_snoc S (S.size - 1) h
    rw [hc, show S.size - 1 + 1 = S.size by omega] at this
    rw [← this]
    exact (List.take_of_length_le (by simp)).symm
  have e : (S.extract 0 (S.size - 1)).data.toList = S.data.toList.take (S.size - 1) := by rw [Lib.extract_data]; simp
  rw [e]
  generalize S.data.toList.take (S.size - 1) = Z at hl
  rw [hl]
  unfold Lib.trimRightB
  rw [List.reverse_append]
  simp
theorem last_not (S : ByteArray) (h : S.size - 1 < S.size) (hc : S[S.size - 1] ≠ 48) : Lib.trimRightB S.data.toList 48 = S.data.toList := by
  have hl : S.data.toList = S.data.toList.take (S.size - 1) ++ [S[S.size - 1]] := by
    have := take_snoc S (S.size - 1) h
    rw [show S.size - 1 + 1 = S.size by omega] at this
    rw [← this]
    exact (List.take_of_length_le (by simp)).symm
  rw [hl]
  unfold Lib.trimRightB
  rw [List.reverse_append]
  simp [hc]
theorem ret_se2 {a b : ByteArray} {e : Int} (h : a = b) : Ending.returned (.tuple #[.string a, .int .i64 e]) = .returned (.tuple #[.string b, .int .i64 e]) := by rw [h]
set_option maxHeartbeats 2000000 in
set_option maxRecDepth 100000 in
theorem refPrint_gen (n : Int) (m : Nat) (P : ByteArray) (w : World) (hm : m ≤ 9000000000000000000) (hor : (n < 0 ∧ n = -(m : Int) ∧ P = ⟨#[45]⟩) ∨ (¬ n < 0 ∧ n = m ∧ P = ⟨#[]⟩)) (hh : heldB n = true) :
    Calls Tryd.prog 15 #[.int .i64 n] w fun e w' => e = .returned (.tuple #[.string ⟨(P.data.toList ++ Lib.decDigits (m / 10000000) ++ restL (m % 10000000)).toArray⟩, .int .i64 0]) ∧ w = w' := by
  have hq9 : m / 10000000 ≤ 9000000000000000000 := by omega
  have C1 := Lib.hid fun W => figs_any (m / 10000000) W hq9
  have hD := dec_len (m / 10000000) (by omega)
  obtain ⟨D, hDe⟩ : ∃ D, D = Lib.decDigits (m / 10000000) := ⟨_, rfl⟩
  rw [← hDe] at C1 hD ⊢
  obtain ⟨DB, hDB⟩ : ∃ DB : ByteArray, DB = ⟨D.toArray⟩ := ⟨_, rfl⟩
  have hDBs : DB.size ≤ 20 := by rw [hDB, Lib.size_mk]; exact hD.2
  rw [← hDB] at C1
  obtain ⟨q, hq⟩ : ∃ q, q = m / 10000000 := ⟨_, rfl⟩
  obtain ⟨r, hr⟩ : ∃ r, r = m % 10000000 := ⟨_, rfl⟩
  have e1 : (m : Int) / 10000000 = (q : Int) := by omega
  have e1' : IntKind.i64.wrap ((m : Int).tdiv 10000000) = (q : Int) := by rw [Int.tdiv_eq_ediv_of_nonneg (by omega), IntWalk.i64_in _ (by omega), e1]
  have e2 : (m : Int) % 10000000 = (r : Int) := by omega
  have hr7 : r < 10000000 := by omega
  rw [← hq] at C1
  rw [← hr]
  have HDB := Lib.hid hDB
  have hPs : P.size ≤ 1 := by rcases hor with ⟨_, _, rfl⟩ | ⟨_, _, rfl⟩ <;> decide
  have hPk : Hid (P.data.toList = P.data.toList) := Lib.hid rfl
  have hmI : (m : Int) ≤ 9000000000000000000 := by omega
  have hr7I : (r : Int) ≤ 9999999 := by omega
  have HH := Lib.hid fun W => hh ▸ refHeld_any n W
  by_cases h0 : r = 0
  · have e3 : ((r : Int) == 0) = true := by simp; omega
    have HR := Lib.hid (show restL r = [] from if_pos h0)
    clear hq hr hD hDe hDB hq9 hr7 h0 hh hm
    rcases hor with ⟨hn, hnm, hP⟩ | ⟨hn, hnm, hP⟩
    · have HP := Lib.hid hP
      subst hP
      have hneg : -n = (m : Int) := by omega
      have hlo : -9000000000000000000 ≤ n := by omega
      clear hnm
      go_enter Tryd.func15, Tryd.ntmps15
      go_wp2_with (first
        | (go_at_call 29; refine (HH.out _).mono ?_; rintro e w' ⟨rfl, rfl⟩)
        | (go_at_call 30; refine (C1.out _).mono ?_; rintro e w' ⟨rfl, rfl⟩))
      go_ret2
      refine ⟨ret_se2 ?_, rfl⟩
      rw [HDB.out, HR.out, List.append_nil]
      exact app_mk [45] D
    · have HP := Lib.hid hP
      subst hP hnm
      have hn2 : decide ((m : Int) < 0) = false := by simp
      clear hn
      go_enter Tryd.func15, Tryd.ntmps15
      go_wp2_with (first
        | (go_at_call 29; refine (HH.out _).mono ?_; rintro e w' ⟨rfl, rfl⟩)
        | (go_at_call 30; refine (C1.out _).mono ?_; rintro e w' ⟨rfl, rfl⟩))
      go_ret2
      refine ⟨ret_se2 ?_, rfl⟩
      rw [HR.out, List.append_nil]
      first | exact app_mk [] D | (rw [HDB.out]; exact app_mk [] D) | (rw [HDB.out]; rfl)
  · obtain ⟨R, hR1, -, hRn, -, -⟩ := rest_facts r h0 hr7
    obtain ⟨z, hz⟩ : ∃ z, z = 10000000 + r := ⟨_, rfl⟩
    have hRT : restL r = 46 :: Lib.trimRightB ((Lib.decDigits z).drop 1) 48 := by unfold restL; rw [if_neg h0, hz]
    have e3 : ((r : Int) == 0) = false := by simp; omega
    have e5 : (r : Int) + 10000000 = (z : Int) := by omega
    have hzl := dec_len z (by omega)
    have C2 := Lib.hid fun W => figs_any z W (by omega)
    obtain ⟨ZB, hZB⟩ : ∃ ZB : ByteArray, ZB = ⟨(Lib.decDigits z).toArray⟩ := ⟨_, rfl⟩
    have hZs : ZB.size = (Lib.decDigits z).length := by rw [hZB, Lib.size_mk]
    have hZ1 : 1 ≤ ZB.size := by omega
    have hZ2 : ZB.size ≤ 20 := by omega
    rw [← hZB] at C2
    obtain ⟨Y, hY⟩ : ∃ Y, Y = ZB.extract 1 ZB.size := ⟨_, rfl⟩
    have hYl : Y.data.toList = (Lib.decDigits z).drop 1 := by
      rw [hY, Lib.extract_data, hZB, mk_list]
      exact List.take_of_length_le (by rw [List.length_drop, Lib.size_mk]; exact Nat.le_refl _)
    have hYs : Y.size ≤ 20 := by rw [hY, ByteArray.size_extract]; omega
    obtain ⟨T, hT⟩ : ∃ T, T = Lib.trimRightB Y.data.toList 48 := ⟨_, rfl⟩
    have hTn : T ≠ [] := fun e => hRn (by
      have := hR1.symm.trans hRT
      injection this with _ h
      rw [h, ← hYl, ← hT, e])
    have hY1 : 1 ≤ Y.size := by
      rcases Nat.lt_or_ge 0 Y.size with h | h
      · exact h
      · refine absurd ?_ hTn
        have : Y.data.toList = [] := List.eq_nil_of_length_eq_zero (by simpa using h)
        rw [hT, this]
        rfl
    have HR := Lib.hid (show restL r = 46 :: T by rw [hRT, ← hYl, hT])
    have HTN := Lib.hid hTn
    have HT := Lib.hid hT.symm
    have HX := Lib.hid hY.symm
    clear hq hr hD hDe hDB hq9 hr7 h0 hh hm hR1 hRn hRT hzl hZB hZs hY hYl hT hTn hz
    rcases hor with ⟨hn, hnm, hP⟩ | ⟨hn, hnm, hP⟩
    · have HP := Lib.hid hP
      subst hP
      have hneg : -n = (m : Int) := by omega
      have hlo : -9000000000000000000 ≤ n := by omega
      clear hnm
      have hx := HX.out
      go_enter Tryd.func15, Tryd.ntmps15
      go_wp2_with (go_at_call 29; refine (HH.out _).mono ?_; rintro e w' ⟨rfl, rfl⟩)
      refine (C1.out _).mono ?_
      rintro e w' ⟨rfl, rfl⟩
      go_wp2_with fail
      refine (C2.out _).mono ?_
      rintro e w' ⟨rfl, rfl⟩
      go_wp2_with fail
      clear hx e1 e1' e2 e5
      go_loop [7] (fun v => ∃ S : ByteArray, v = .string S ∧ 1 ≤ S.size ∧ S.size ≤ 20 ∧ Lib.trimRightB S.data.toList 48 = T) (fun v => Lib.strSize v)
      case atStart => exact ⟨Y, rfl, hY1, hYs, HT.out⟩
      case round =>
        obtain ⟨S, rfl, hs1, hs2, ht⟩ := hrel
        have HS := Lib.hid ht
        have hlt : S.size - 1 < S.size := by omega
        have ei : ((S.size : Int) - 1).toNat = S.size - 1 := by omega
        clear ht
        by_cases hc : S[S.size - 1] = 48
        · have ht2 := last_is S hlt hc
          have hge : 2 ≤ S.size := by
            rcases Nat.lt_or_ge S.size 2 with h | h
            · refine absurd ?_ HTN.out
              rw [← HS.out, ← ht2]
              have : (S.extract 0 (S.size - 1)).data.toList = [] := by rw [Lib.extract_data, show S.size - 1 = 0 by omega]; simp
              rw [this]
              rfl
            · exact h
          have HS2 := Lib.hid (ht2.trans HS.out)
          have hsx : (S.extract 0 (S.size - 1)).size = S.size - 1 := by rw [ByteArray.size_extract]; omega
          have HSX := Lib.hid hsx
          have t1 : (((S[S.size - 1]'hlt).toNat : Int) == 48) = true := by rw [hc]; rfl
          clear ht2 hc hsx
          go_wp2
          go_round
          case rel => exact ⟨S.extract 0 (S.size - 1), rfl, by rw [HSX.out]; omega, by rw [HSX.out]; omega, HS2.out⟩
          case measure => simp only [Lib.strSize_string]; have := HSX.out; omega
        · have ht2 := last_not S hlt hc
          have HS2 := Lib.hid (ht2.symm.trans HS.out)
          have t1 : (((S[S.size - 1]'hlt).toNat : Int) == 48) = false := by
            rw [beq_eq_false_iff_ne]
            intro e
            refine hc (UInt8.toNat_inj.1 ?_)
            have : (48 : UInt8).toNat = 48 := rfl
            omega
          clear ht2 hc
          go_wp2
          go_ret2
          refine ⟨ret_se2 ?_, rfl⟩
          rw [HR.out, HDB.out, ← HS2.out]
          apply ByteArray.ext
          apply Array.toList_inj.1
          simp
    · have HP := Lib.hid hP
      subst hP hnm
      have hn2 : decide ((m : Int) < 0) = false := by simp
      clear hn
      have hx := HX.out
      go_enter Tryd.func15, Tryd.ntmps15
      go_wp2_with (go_at_call 29; refine (HH.out _).mono ?_; rintro e w' ⟨rfl, rfl⟩)
      refine (C1.out _).mono ?_
      rintro e w' ⟨rfl, rfl⟩
      go_wp2_with fail
      refine (C2.out _).mono ?_
      rintro e w' ⟨rfl, rfl⟩
      go_wp2_with fail
      clear hx e1 e1' e2 e5
      go_loop [7] (fun v => ∃ S : ByteArray, v = .string S ∧ 1 ≤ S.size ∧ S.size ≤ 20 ∧ Lib.trimRightB S.data.toList 48 = T) (fun v => Lib.strSize v)
      case atStart => exact ⟨Y, rfl, hY1, hYs, HT.out⟩
      case round =>
        obtain ⟨S, rfl, hs1, hs2, ht⟩ := hrel
        have HS := Lib.hid ht
        have hlt : S.size - 1 < S.size := by omega
        have ei : ((S.size : Int) - 1).toNat = S.size - 1 := by omega
        clear ht
        by_cases hc : S[S.size - 1] = 48
        · have ht2 := last_is S hlt hc
          have hge : 2 ≤ S.size := by
            rcases Nat.lt_or_ge S.size 2 with h | h
            · refine absurd ?_ HTN.out
              rw [← HS.out, ← ht2]
              have : (S.extract 0 (S.size - 1)).data.toList = [] := by rw [Lib.extract_data, show S.size - 1 = 0 by omega]; simp
              rw [this]
              rfl
            · exact h
          have HS2 := Lib.hid (ht2.trans HS.out)
          have hsx : (S.extract 0 (S.size - 1)).size = S.size - 1 := by rw [ByteArray.size_extract]; omega
          have HSX := Lib.hid hsx
          have t1 : (((S[S.size - 1]'hlt).toNat : Int) == 48) = true := by rw [hc]; rfl
          clear ht2 hc hsx
          go_wp2
          go_round
          case rel => exact ⟨S.extract 0 (S.size - 1), rfl, by rw [HSX.out]; omega, by rw [HSX.out]; omega, HS2.out⟩
          case measure => simp only [Lib.strSize_string]; have := HSX.out; omega
        · have ht2 := last_not S hlt hc
          have HS2 := Lib.hid (ht2.symm.trans HS.out)
          have t1 : (((S[S.size - 1]'hlt).toNat : Int) == 48) = false := by
            rw [beq_eq_false_iff_ne]
            intro e
            refine hc (UInt8.toNat_inj.1 ?_)
            have : (48 : UInt8).toNat = 48 := rfl
            omega
          clear ht2 hc
          go_wp2
          go_ret2
          refine ⟨ret_se2 ?_, rfl⟩
          rw [HR.out, HDB.out, ← HS2.out]
          apply ByteArray.ext
          apply Array.toList_inj.1
          simp
theorem refPrint_any (n : Int) (w : World) :
    Calls Tryd.prog 15 #[.int .i64 n] w fun e w' => e = .returned (.tuple #[.string ⟨(printS n).toArray⟩, .int .i64 (printE n)]) ∧ w = w' := by
  cases hh : heldB n
  · rw [show printS n = [] from if_neg (by rw [hh]; simp), show printE n = 2 from if_neg (by rw [hh]; simp)]
    go_enter Tryd.func15, Tryd.ntmps15
    go_wp2_with (go_at_call 29; refine (refHeld_any _ _).mono ?_; rintro e w' ⟨rfl, rfl⟩)
    go_ret2
    exact ⟨rfl, rfl⟩
  · rw [show printS n = printL n from if_pos hh, show printE n = 0 from if_pos hh]
    have hB := heldB_yes hh
    have h9 : n.natAbs ≤ 9000000000000000000 := by omega
    unfold printL
    by_cases hn : n < 0
    · rw [if_pos hn]
      exact refPrint_gen n n.natAbs ⟨#[45]⟩ w h9 (.inl ⟨hn, by omega, rfl⟩) hh
    · rw [if_neg hn]
      exact refPrint_gen n n.natAbs ⟨#[]⟩ w h9 (.inr ⟨hn, by omega, rfl⟩) hh
end Go.Proofs.YtoeddhkbifeamaaDoor
