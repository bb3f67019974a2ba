/- The document's Parse: the walk. -/
import Derived.Test.YtoeddhkbifeamaaDoorNRefVal
import Derived.Test.YtoeddhkbifeamaaDoorNParse
import Derived.Deep.DeepCutAuto
import Derived.Deep.CutRange
import Derived.Deep.CutBlock
import Derived.Deep.LoopGhost
import Derived.WalkLawsBesides
namespace Go.Proofs.YtoeddhkbifeamaaDoor
open Go.RowKit
set_option linter.unusedVariables false

theorem last_is2 (S : ByteArray) (h : S.size - 1 < S.size) (hc : S[S.size - 1] = 48) : Lib.trimRightB (S.extract 0 (S.size - 1)).data.toList 48 = Lib.trimRightB S.data.toList 48 := by
  have hl : S.data.toList = S.data.toList.take (S.size - 1) ++ [48] := by
    have := take_snoc S (S.size - 1) h
    rw [hc, show S.size - 1 + 1 = S.size by omega] at this
    rw [← this]
    exact (List.take_of_length_le (by simp)).symm
  have e : (S.extract 0 (S.size - 1)).data.toList = S.data.toList.take (S.size - 1) := by rw [Lib.extract_data]; simp
  rw [e]
  generalize S.data.toList.take (S.size - 1) = Z at hl
  rw [hl]
  unfold Lib.trimRightB
  rw [List.reverse_append]
  simp
theorem last_not2 (S : ByteArray) (h : S.size - 1 < S.size) (hc : S[S.size - 1] ≠ 48) : Lib.trimRightB S.data.toList 48 = S.data.toList := by
  have hl : S.data.toList = S.data.toList.take (S.size - 1) ++ [S[S.size - 1]] := by
    have := take_snoc S (S.size - 1) h
    rw [show S.size - 1 + 1 = S.size by omega] at this
    rw [← this]
    exact (List.take_of_length_le (by simp)).symm
  rw [hl]
  unfold Lib.trimRightB
  rw [List.reverse_append]
  simp [hc]
theorem app_data2 (s : ByteArray) (l : Array UInt8) : (s ++ ⟨l⟩).data.toList = s.data.toList ++ l.toList := by simp
theorem app_data3 (s : ByteArray) (l : Array UInt8) : ((⟨l⟩ : ByteArray) ++ s).data.toList = l.toList ++ s.data.toList := by simp
def shiftV (s : ByteArray) : Int := if (cutP s).down = true then -(smallV (cutP s).exponent.data.toList : Int) else (smallV (cutP s).exponent.data.toList : Int)
def digB (s : ByteArray) : ByteArray := ⟨((cutP s).whole.data.toList ++ (cutP s).rest.data.toList).toArray⟩
set_option maxHeartbeats 16000000 in
set_option maxRecDepth 100000 in
theorem refParse_good (s : ByteArray) (w : World) (hs : s.size ≤ 60000) (h0 : s.size ≠ 0) (hl : (cutP s).length = s.size) :
    Calls Tryd.prog 10 #[.string s] w fun e w' => e = .returned (.tuple #[.int .i64 (valV (cutP s)), .int .i64 (valE (cutP s))]) ∧ w = w' := by
  obtain ⟨M, t, sh⟩ := shape_all s hl h0
  have hsI : (s.size : Int) ≤ 60000 := by omega
  have hs0 : 0 < s.size := by omega
  have CS := Lib.hid fun W => refScan_any s W (by omega)
  have HL := Lib.hid hl
  rw [hl] at CS
  have SH := Lib.hid sh
  have hM := sh.le
  have t1 : ((s.size : Int) == 0) = false := by rw [beq_eq_false_iff_ne]; omega
  have t2 : ((s.size : Int) != (s.size : Int)) = false := by simp
  obtain ⟨b0, hb0⟩ : ∃ b, b = ((((s[0]'hs0).toNat : Nat) : Int) == 45) := ⟨_, rfl⟩
  have HB := Lib.hid (show b0 = (cutP s).below by
    rw [sh.minus, signAt_in s 0 _ hs0, hb0]
    by_cases e : s[0] = 45
    · rw [e]; rfl
    · have h1 : (s[0]'hs0).toNat ≠ 45 := fun h => e (UInt8.toNat_inj.1 h)
      have h2 : ((((s[0]'hs0).toNat : Nat) : Int) == 45) = false := net _ 45 h1
      rw [h2]
      simp [e])
  have HB0 := Lib.hid hb0
  clear sh hl hb0 h0
  go_enter Tryd.func10, Tryd.ntmps10
  go_upto_block 0 with (go_at_call 12; refine (CS.out _).mono ?_; rintro _ _ ⟨rfl, rfl⟩)
  go_cut [5, 6, 7] (fun d b sh w' => d = .string (digB s) ∧ b = .int .i64 ((cutP s).rest.size : Nat) ∧ sh = .int .i64 (shiftV s) ∧ w = w')
  case first =>
    clear t1 t2
    go_wp2_with fail
    go_loop [5, 6, 7, 8, 9] (fun d b sh tt i => ∃ (k : Nat) (D : List UInt8) (m : Nat) (u : Bool), k ≤ M ∧ st s k = (D, m, u) ∧ d = .string ⟨D.toArray⟩ ∧ b = .int .i64 m ∧ sh = .int .i64 0 ∧ tt = .bool u ∧ i = .int .i64 k) (fun _ _ _ _ i => s.size - (intOf i).toNat)
    case atStart => exact ⟨0, [], 0, false, by omega, rfl, rfl, rfl, rfl, rfl, rfl⟩
    case round =>
      obtain ⟨k, D, m, u, hk, hst, rfl, rfl, rfl, rfl, rfl⟩ := hrel
      have hlen := st_len s k (by omega)
      rw [hst] at hlen
      have hD : D.length ≤ k := hlen.1
      have hm : m ≤ k := hlen.2
      obtain ⟨O, hO⟩ : ∃ O : ByteArray, O = ⟨D.toArray⟩ := ⟨_, rfl⟩
      have hOs : O.size ≤ 60000 := by rw [hO, mk_size]; omega
      rw [← hO]
      have HO := Lib.hid hO
      have HST := Lib.hid hst
      clear hO hst hlen hD
      by_cases hlt : k < M
      · have hks : k < s.size := by omega
        have hne := SH.out.no k hks hlt
        have HN := Lib.hid (st_next s k hks)
        have e1 : ((((s[k]'hks).toNat : Nat) : Int) == 101) = false := net _ 101 hne.1
        have e2 : ((((s[k]'hks).toNat : Nat) : Int) == 69) = false := net _ 69 hne.2
        have HAP := Lib.hid (app_one s k hks D)
        have hxs : (s.extract k (k + 1)).size = 1 := by rw [ByteArray.size_extract]; omega
        clear hne
        cases hf : fig (s[k]'hks)
        · have CF := Lib.hid fun W => figure_at (s[k]'hks) false hf W
          have HF := Lib.hid hf
          clear hf
          by_cases h46 : (s[k]'hks).toNat = 46
          · have e3 : ((((s[k]'hks).toNat : Nat) : Int) == 46) = true := eqt _ 46 h46
            have H46 := Lib.hid (show s[k] = 46 from UInt8.toNat_inj.1 h46)
            clear h46
            go_wp2_with (go_at_call 22; refine (CF.out _).mono ?_; rintro _ _ ⟨rfl, rfl⟩)
            go_round
            case rel =>
              refine ⟨k + 1, D, m, true, by omega, ?_, by rw [HO.out], rfl, rfl, rfl, by go_num⟩
              rw [HN.out, HST.out]
              unfold stepS
              rw [HF.out, H46.out]
              simp
            case measure => simp [intOf]; omega
          · have e3 : ((((s[k]'hks).toNat : Nat) : Int) == 46) = false := net _ 46 h46
            have H46 := Lib.hid (show s[k] ≠ 46 from fun h => h46 (by rw [h]; rfl))
            clear h46
            go_wp2_with (go_at_call 22; refine (CF.out _).mono ?_; rintro _ _ ⟨rfl, rfl⟩)
            go_round
            case rel =>
              refine ⟨k + 1, D, m, u, by omega, ?_, by rw [HO.out], rfl, rfl, rfl, by go_num⟩
              rw [HN.out, HST.out]
              unfold stepS
              rw [HF.out]
              simp [H46.out]
            case measure => simp [intOf]; omega
        · have CF := Lib.hid fun W => figure_at (s[k]'hks) true hf W
          have HF := Lib.hid hf
          have h46 : (s[k]'hks).toNat ≠ 46 := by have := fig_yes hf; omega
          have e3 : ((((s[k]'hks).toNat : Nat) : Int) == 46) = false := net _ 46 h46
          clear hf h46
          cases u
          · go_wp2_with (go_at_call 22; refine (CF.out _).mono ?_; rintro _ _ ⟨rfl, rfl⟩)
            go_round
            case rel =>
              refine ⟨k + 1, D ++ [s[k]], m, false, by omega, ?_, by rw [HO.out, HAP.out], rfl, rfl, rfl, by go_num⟩
              rw [HN.out, HST.out]
              unfold stepS
              rw [if_pos HF.out]
              simp
            case measure => simp [intOf]; omega
          · go_wp2_with (go_at_call 22; refine (CF.out _).mono ?_; rintro _ _ ⟨rfl, rfl⟩)
            go_round
            case rel =>
              refine ⟨k + 1, D ++ [s[k]], m + 1, true, by omega, ?_, by rw [HO.out, HAP.out], by go_num, rfl, rfl, by go_num⟩
              rw [HN.out, HST.out]
              unfold stepS
              rw [if_pos HF.out]
              simp
            case measure => simp [intOf]; omega
      · obtain rfl : k = M := by omega
        have hsh := SH.out.st
        rw [HST.out] at hsh
        injection hsh with g1 g2
        injection g2 with g2 g3
        have HG1 := Lib.hid (show O = digB s by rw [HO.out, g1]; rfl)
        have HG2 := Lib.hid g2
        have hends := SH.out.ends
        clear g1 g2 g3
        rcases hends with ⟨hMs, hdn, hX⟩ | ⟨hM1, kk, hbyte, hfk, hneg, hkk, hext, hXf⟩
        · have HSV := Lib.hid (show shiftV s = 0 by unfold shiftV; rw [hdn, hX]; rfl)
          subst hMs
          clear hdn hX
          go_wp2
          go_meet
          case rel => exact ⟨by rw [HG1.out], by rw [HG2.out], by rw [HSV.out], rfl⟩
        · have hM1 := hM1
          have hks : k < s.size := by omega
          have hfz : fig (s[k]'hks) = false := by
            unfold fig
            refine decide_eq_false ?_
            rcases hbyte with h | h <;> rw [h] <;> decide
          have CF := Lib.hid fun W => figure_at (s[k]'hks) false hfz W
          have h46 : (s[k]'hks).toNat ≠ 46 := by rcases hbyte with h | h <;> rw [h] <;> decide
          have e3 : ((((s[k]'hks).toNat : Nat) : Int) == 46) = false := net _ 46 h46
          have KS0 := fun W => small_any (cutP s).exponent W (by rw [← hext, ByteArray.size_extract]; omega) hXf
          rw [← hext] at KS0
          rw [hext] at KS0
          have eo := Lib.hid hext
          have KS := Lib.hid (show ∀ W, Calls Tryd.prog 23 #[.string (s.extract kk s.size)] W fun e w' => e = .returned (.int .i64 (smallV (cutP s).exponent.data.toList)) ∧ W = w' from fun W => by rw [eo.out]; exact KS0 W)
          have hkI : (k : Int) + 1 < s.size := by omega
          have en : ((k : Int) + 1).toNat = k + 1 := by omega
          clear hfz h46 KS0 hext hXf
          rcases hbyte with hb | hb
          · have e1 : ((((s[k]'hks).toNat : Nat) : Int) == 101) = true := eqt _ 101 hb
            clear hb
            rcases hfk with ⟨hf1, rfl⟩ | ⟨hf1, rfl⟩
            · have h45 : (s[k + 1]'hM1).toNat ≠ 45 := by have := fig_yes hf1; omega
              have e4 : ((((s[k + 1]'hM1).toNat : Nat) : Int) == 45) = false := net _ 45 h45
              have hdn : (cutP s).down = false := by
                cases h : (cutP s).down
                · rfl
                · exact absurd (hneg.2 h) h45
              clear hneg h45
              have CF1 := Lib.hid fun W => figure_at (s[k + 1]'hM1) true hf1 W
              have HSV := Lib.hid (show shiftV s = (smallV (cutP s).exponent.data.toList : Int) by unfold shiftV; rw [hdn]; rfl)
              clear hf1 hdn
              go_wp2_with (first | (go_at_call 22; refine (CF.out _).mono ?_; rintro _ _ ⟨rfl, rfl⟩) | (go_at_call 22; refine (CF1.out _).mono ?_; rintro _ _ ⟨rfl, rfl⟩))
              refine (KS.out _).mono ?_
              rintro _ _ ⟨rfl, rfl⟩
              obtain ⟨z, hz⟩ : ∃ z, z = smallV (cutP s).exponent.data.toList := ⟨_, rfl⟩
              have hzl : z ≤ 1000000 := by rw [hz]; unfold smallV; omega
              have hzI : (z : Int) ≤ 1000000 := by omega
              rw [← hz] at HSV ⊢
              clear hz
              go_wp2
              go_meet
              case rel => exact ⟨by rw [HG1.out], by rw [HG2.out], by rw [HSV.out], rfl⟩
            · have e5 : (k : Int) + 1 + 1 ≤ s.size := by omega
              by_cases h45 : (s[k + 1]'hM1).toNat = 45
              · have e4 : ((((s[k + 1]'hM1).toNat : Nat) : Int) == 45) = true := eqt _ 45 h45
                have hdn := hneg.1 h45
                clear hneg h45
                have CF1 := Lib.hid fun W => figure_at (s[k + 1]'hM1) false hf1 W
                have HSV := Lib.hid (show shiftV s = -(smallV (cutP s).exponent.data.toList : Int) by unfold shiftV; rw [hdn]; rfl)
                clear hf1 hdn
                go_wp2_with (first | (go_at_call 22; refine (CF.out _).mono ?_; rintro _ _ ⟨rfl, rfl⟩) | (go_at_call 22; refine (CF1.out _).mono ?_; rintro _ _ ⟨rfl, rfl⟩))
                refine (KS.out _).mono ?_
                rintro _ _ ⟨rfl, rfl⟩
                obtain ⟨z, hz⟩ : ∃ z, z = smallV (cutP s).exponent.data.toList := ⟨_, rfl⟩
                have hzl : z ≤ 1000000 := by rw [hz]; unfold smallV; omega
                have hzI : (z : Int) ≤ 1000000 := by omega
                rw [← hz] at HSV ⊢
                clear hz
                go_wp2
                go_meet
                case rel => exact ⟨by rw [HG1.out], by rw [HG2.out], by rw [HSV.out], rfl⟩
              · have e4 : ((((s[k + 1]'hM1).toNat : Nat) : Int) == 45) = false := net _ 45 h45
                have hdn : (cutP s).down = false := by
                  cases h : (cutP s).down
                  · rfl
                  · exact absurd (hneg.2 h) h45
                clear hneg h45
                have CF1 := Lib.hid fun W => figure_at (s[k + 1]'hM1) false hf1 W
                have HSV := Lib.hid (show shiftV s = (smallV (cutP s).exponent.data.toList : Int) by unfold shiftV; rw [hdn]; rfl)
                clear hf1 hdn
                go_wp2_with (first | (go_at_call 22; refine (CF.out _).mono ?_; rintro _ _ ⟨rfl, rfl⟩) | (go_at_call 22; refine (CF1.out _).mono ?_; rintro _ _ ⟨rfl, rfl⟩))
                refine (KS.out _).mono ?_
                rintro _ _ ⟨rfl, rfl⟩
                obtain ⟨z, hz⟩ : ∃ z, z = smallV (cutP s).exponent.data.toList := ⟨_, rfl⟩
                have hzl : z ≤ 1000000 := by rw [hz]; unfold smallV; omega
                have hzI : (z : Int) ≤ 1000000 := by omega
                rw [← hz] at HSV ⊢
                clear hz
                go_wp2
                go_meet
                case rel => exact ⟨by rw [HG1.out], by rw [HG2.out], by rw [HSV.out], rfl⟩
          · have e1 : ((((s[k]'hks).toNat : Nat) : Int) == 101) = false := by rw [hb]; rfl
            have e2 : ((((s[k]'hks).toNat : Nat) : Int) == 69) = true := eqt _ 69 hb
            clear hb
            rcases hfk with ⟨hf1, rfl⟩ | ⟨hf1, rfl⟩
            · have h45 : (s[k + 1]'hM1).toNat ≠ 45 := by have := fig_yes hf1; omega
              have e4 : ((((s[k + 1]'hM1).toNat : Nat) : Int) == 45) = false := net _ 45 h45
              have hdn : (cutP s).down = false := by
                cases h : (cutP s).down
                · rfl
                · exact absurd (hneg.2 h) h45
              clear hneg h45
              have CF1 := Lib.hid fun W => figure_at (s[k + 1]'hM1) true hf1 W
              have HSV := Lib.hid (show shiftV s = (smallV (cutP s).exponent.data.toList : Int) by unfold shiftV; rw [hdn]; rfl)
              clear hf1 hdn
              go_wp2_with (first | (go_at_call 22; refine (CF.out _).mono ?_; rintro _ _ ⟨rfl, rfl⟩) | (go_at_call 22; refine (CF1.out _).mono ?_; rintro _ _ ⟨rfl, rfl⟩))
              refine (KS.out _).mono ?_
              rintro _ _ ⟨rfl, rfl⟩
              obtain ⟨z, hz⟩ : ∃ z, z = smallV (cutP s).exponent.data.toList := ⟨_, rfl⟩
              have hzl : z ≤ 1000000 := by rw [hz]; unfold smallV; omega
              have hzI : (z : Int) ≤ 1000000 := by omega
              rw [← hz] at HSV ⊢
              clear hz
              go_wp2
              go_meet
              case rel => exact ⟨by rw [HG1.out], by rw [HG2.out], by rw [HSV.out], rfl⟩
            · have e5 : (k : Int) + 1 + 1 ≤ s.size := by omega
              by_cases h45 : (s[k + 1]'hM1).toNat = 45
              · have e4 : ((((s[k + 1]'hM1).toNat : Nat) : Int) == 45) = true := eqt _ 45 h45
                have hdn := hneg.1 h45
                clear hneg h45
                have CF1 := Lib.hid fun W => figure_at (s[k + 1]'hM1) false hf1 W
                have HSV := Lib.hid (show shiftV s = -(smallV (cutP s).exponent.data.toList : Int) by unfold shiftV; rw [hdn]; rfl)
                clear hf1 hdn
                go_wp2_with (first | (go_at_call 22; refine (CF.out _).mono ?_; rintro _ _ ⟨rfl, rfl⟩) | (go_at_call 22; refine (CF1.out _).mono ?_; rintro _ _ ⟨rfl, rfl⟩))
                refine (KS.out _).mono ?_
                rintro _ _ ⟨rfl, rfl⟩
                obtain ⟨z, hz⟩ : ∃ z, z = smallV (cutP s).exponent.data.toList := ⟨_, rfl⟩
                have hzl : z ≤ 1000000 := by rw [hz]; unfold smallV; omega
                have hzI : (z : Int) ≤ 1000000 := by omega
                rw [← hz] at HSV ⊢
                clear hz
                go_wp2
                go_meet
                case rel => exact ⟨by rw [HG1.out], by rw [HG2.out], by rw [HSV.out], rfl⟩
              · have e4 : ((((s[k + 1]'hM1).toNat : Nat) : Int) == 45) = false := net _ 45 h45
                have hdn : (cutP s).down = false := by
                  cases h : (cutP s).down
                  · rfl
                  · exact absurd (hneg.2 h) h45
                clear hneg h45
                have CF1 := Lib.hid fun W => figure_at (s[k + 1]'hM1) false hf1 W
                have HSV := Lib.hid (show shiftV s = (smallV (cutP s).exponent.data.toList : Int) by unfold shiftV; rw [hdn]; rfl)
                clear hf1 hdn
                go_wp2_with (first | (go_at_call 22; refine (CF.out _).mono ?_; rintro _ _ ⟨rfl, rfl⟩) | (go_at_call 22; refine (CF1.out _).mono ?_; rintro _ _ ⟨rfl, rfl⟩))
                refine (KS.out _).mono ?_
                rintro _ _ ⟨rfl, rfl⟩
                obtain ⟨z, hz⟩ : ∃ z, z = smallV (cutP s).exponent.data.toList := ⟨_, rfl⟩
                have hzl : z ≤ 1000000 := by rw [hz]; unfold smallV; omega
                have hzI : (z : Int) ≤ 1000000 := by omega
                rw [← hz] at HSV ⊢
                clear hz
                go_wp2
                go_meet
                case rel => exact ⟨by rw [HG1.out], by rw [HG2.out], by rw [HSV.out], rfl⟩
  case rest =>
    obtain ⟨rfl, rfl, rfl, rfl⟩ := hcut
    obtain ⟨p, hp⟩ : ∃ p, p = cutP s := ⟨_, rfl⟩
    have hsh : shiftV s = shiftP p := by rw [hp]; rfl
    have hdg : digB s = ⟨(p.whole.data.toList ++ p.rest.data.toList).toArray⟩ := by rw [hp]; rfl
    have hw1 : p.whole.size ≤ 60001 := by rw [hp]; have := (cutP_good s).1.2; omega
    have hw2 : p.rest.size ≤ 60001 := by rw [hp]; have := (cutP_good s).2.1.2; omega
    have hFG : Figs (p.whole.data.toList ++ p.rest.data.toList) := by rw [hp]; exact (cutP_good s).1.1.append (cutP_good s).2.1.1
    have hb0p : b0 = p.below := by rw [hp]; exact HB.out
    rw [hsh, hdg, ← hp]
    have hP0 : valV (cutP s) = valV p ∧ valE (cutP s) = valE p := by rw [hp]; exact ⟨rfl, rfl⟩
    have HP := Lib.hid hP0
    have hs2 := shift_le p
    obtain ⟨DG, hDG⟩ : ∃ DG : ByteArray, DG = ⟨(p.whole.data.toList ++ p.rest.data.toList).toArray⟩ := ⟨_, rfl⟩
    have nDG : DG.size ≤ 120002 := by
      rw [hDG, mk_size, List.length_append]
      have e1 : p.whole.data.toList.length = p.whole.size := by simp
      have e2 : p.rest.data.toList.length = p.rest.size := by simp
      omega
    have lDG : DG.data.toList = p.whole.data.toList ++ p.rest.data.toList := by rw [hDG, mk_list]
    have HF := Lib.hid (show frontL p = Lib.trimLeftB DG.data.toList 48 by rw [lDG]; rfl)
    have HFG := Lib.hid (show Figs DG.data.toList by rw [lDG]; exact hFG)
    rw [← hDG]
    obtain ⟨R, hR⟩ : ∃ R, R = p.rest.size := ⟨_, rfl⟩
    obtain ⟨S, hS⟩ : ∃ S, S = shiftP p := ⟨_, rfl⟩
    have HRS := Lib.hid (And.intro hR hS)
    have hR2 : R ≤ 60001 := by omega
    have hRI : (R : Int) ≤ 60001 := by omega
    rw [← hS] at hs2
    rw [← hR, ← hS]
    have HB2 := Lib.hid hb0p
    have HW := Lib.hid (And.intro hw1 hw2)
    have HBZ := HB0
    rw [← HB0.out]
    clear hp hsh hdg hFG hb0p hP0 hDG lDG hR hS hw1 hw2 HB SH HL CS t1 t2 hM
    go_upto_block 2 with (fail)
    go_cut [12] (fun f w' => ∃ i : Nat, f = .int .i64 i ∧ i ≤ DG.size ∧ DG.data.toList.drop i = frontL p ∧ w = w')
    case first =>
      go_wp2_with fail
      go_loop [12] (fun f => ∃ i : Nat, f = .int .i64 i ∧ i ≤ DG.size ∧ Lib.trimLeftB (DG.data.toList.drop i) 48 = frontL p) (fun f => DG.size - (intOf f).toNat)
      case atStart => exact ⟨0, rfl, by omega, HF.out.symm⟩
      case round =>
        obtain ⟨i, rfl, hi, hd⟩ := hrel
        have HD := Lib.hid hd
        clear hd
        by_cases hlt : i < DG.size
        · have hdr : DG.data.toList.drop i = DG[i] :: DG.data.toList.drop (i + 1) := by rw [List.drop_eq_getElem_cons (by simpa using hlt), byteOf DG i hlt]
          by_cases hc : (DG[i]'hlt).toNat = 48
          · have e : ((((DG[i]'hlt).toNat : Nat) : Int) == 48) = true := eqt _ 48 hc
            have HN := Lib.hid (show Lib.trimLeftB (DG.data.toList.drop (i + 1)) 48 = frontL p by
              rw [← HD.out, hdr, show DG[i] = 48 from UInt8.toNat_inj.1 hc]
              unfold Lib.trimLeftB
              rw [List.dropWhile_cons_of_pos (by simp)])
            clear hc hdr
            go_wp2
            go_round
            case rel => exact ⟨i + 1, by go_num, by omega, HN.out⟩
            case measure => simp [intOf]; omega
          · have e : ((((DG[i]'hlt).toNat : Nat) : Int) == 48) = false := net _ 48 hc
            have HN := Lib.hid (show DG.data.toList.drop i = frontL p by
              rw [← HD.out, hdr]
              unfold Lib.trimLeftB
              rw [List.dropWhile_cons_of_neg]
              simp
              intro h
              exact hc (by rw [h]; rfl))
            clear hc hdr
            go_wp2
            go_meet
            case rel => exact ⟨i, rfl, hi, HN.out, rfl⟩
        · obtain rfl : i = DG.size := by omega
          have HN := Lib.hid (show DG.data.toList.drop DG.size = frontL p by
            rw [← HD.out, List.drop_of_length_le (by simp)]
            rfl)
          go_wp2
          go_meet
          case rel => exact ⟨DG.size, rfl, hi, HN.out, rfl⟩
    case rest =>
      obtain ⟨i, rfl, hi, hfr, rfl⟩ := hcut
      obtain ⟨FB, hFB⟩ : ∃ FB, FB = DG.extract i DG.size := ⟨_, rfl⟩
      have hfl : FB.data.toList = frontL p := by
        rw [hFB, Lib.extract_data, ← hfr]
        exact List.take_of_length_le (by rw [List.length_drop]; simp)
      have nFB : FB.size = (frontL p).length := by rw [← hfl]; simp
      have nFB2 : FB.size ≤ 120002 := by rw [hFB, ByteArray.size_extract]; omega
      have HFB := Lib.hid hFB.symm
      have HFL := Lib.hid hfl
      have HNF := Lib.hid nFB
      have hx := hFB.symm
      clear hfr hFB hfl nFB
      go_upto_block 4 with (fail)
      clear hx
      have hble := bare_le p
      have hbare := trimR_le (frontL p) 48
      obtain ⟨EB, hEB⟩ : ∃ EB : ByteArray, EB = ⟨(bareL p).toArray⟩ := ⟨_, rfl⟩
      have nEB : EB.size = (bareL p).length := by rw [hEB, mk_size]
      have nEB2 : EB.size ≤ FB.size := by rw [nEB, HNF.out]; exact hble
      have HEB := Lib.hid hEB
      have HNE := Lib.hid nEB
      clear hEB nEB hble hbare
      go_cut [5, 11] (fun d q w' => d = .string EB ∧ q = .int .i64 (S - R + 7 + ((FB.size - EB.size : Nat) : Int)) ∧ w = w')
      case first =>
        go_wp2_with fail
        go_loop [5, 11] (fun d q => ∃ Y : ByteArray, d = .string Y ∧ Y.size ≤ FB.size ∧ q = .int .i64 (S - R + 7 + ((FB.size - Y.size : Nat) : Int)) ∧ Lib.trimRightB Y.data.toList 48 = bareL p) (fun d _ => Lib.strSize d)
        case atStart => exact ⟨FB, rfl, Nat.le_refl _, by congr 1; omega, by rw [HFL.out]; rfl⟩
        case round =>
          obtain ⟨Y, rfl, hYs, rfl, hY⟩ := hrel
          have HY := Lib.hid hY
          clear hY
          have hYb : Y.size ≤ 120002 := by omega
          by_cases h0 : Y.size = 0
          · have HN := Lib.hid (show Y = EB by
              rw [HEB.out, ← HY.out]
              have : Y.data.toList = [] := List.eq_nil_of_length_eq_zero (by simpa using h0)
              rw [this]
              apply ByteArray.ext
              apply Array.toList_inj.1
              rw [this]
              rfl)
            have hz : ¬ 0 < Y.size := by omega
            have hzI : ¬ (0 : Int) < Y.size := by omega
            clear h0
            go_wp2
            go_meet
            case rel => exact ⟨by rw [HN.out], by rw [HN.out], rfl⟩
          · have hz : 0 < Y.size := by omega
            have hzI : (0 : Int) < Y.size := by omega
            have hlt : Y.size - 1 < Y.size := by omega
            have ei : ((Y.size : Int) - 1).toNat = Y.size - 1 := by omega
            clear h0
            by_cases hc : Y[Y.size - 1] = 48
            · have ht := last_is2 Y hlt hc
              have HN := Lib.hid (ht.trans HY.out)
              have hsx := Lib.hid (show (Y.extract 0 (Y.size - 1)).size = Y.size - 1 by rw [ByteArray.size_extract]; omega)
              have e : ((((Y[Y.size - 1]'hlt).toNat : Nat) : Int) == 48) = true := by rw [hc]; rfl
              obtain ⟨dd, hdd⟩ : ∃ dd, dd = FB.size - Y.size := ⟨_, rfl⟩
              have hdI : (dd : Int) ≤ 120002 := by omega
              rw [← hdd]
              have HDD := Lib.hid hdd
              clear ht hc hdd
              go_wp2
              go_round
              case rel =>
                refine ⟨Y.extract 0 (Y.size - 1), rfl, by rw [hsx.out]; omega, ?_, HN.out⟩
                rw [hsx.out]
                have := HDD.out
                congr 1
                omega
              case measure => simp only [Lib.strSize_string]; have := hsx.out; omega
            · have ht := last_not2 Y hlt hc
              have HN := Lib.hid (show Y = EB by
                rw [HEB.out, ← HY.out, ht])
              have e : ((((Y[Y.size - 1]'hlt).toNat : Nat) : Int) == 48) = false := by
                refine net _ 48 fun h => hc (UInt8.toNat_inj.1 h)
              clear ht hc
              go_wp2
              go_meet
              case rel => exact ⟨by rw [HN.out], by rw [HN.out], rfl⟩
      case rest =>
        obtain ⟨rfl, rfl, rfl⟩ := hcut
        obtain ⟨q, hq⟩ : ∃ q, q = S - R + 7 + ((FB.size - EB.size : Nat) : Int) := ⟨_, rfl⟩
        have HQ := Lib.hid (show pwP p = q by unfold pwP; rw [← HRS.out.1, ← HRS.out.2, ← HNF.out, ← HNE.out, hq])
        have hqb : q ≤ 2000000 ∧ -2000000 ≤ q := by omega
        rw [← hq]
        clear hq
        by_cases hnil : bareL p = []
        · have hE0 : EB = ⟨#[]⟩ := by rw [HEB.out, hnil]
          have HV := Lib.hid (show valV (cutP s) = 0 ∧ valE (cutP s) = 0 by rw [HP.out.1, HP.out.2]; exact ⟨if_pos hnil, if_pos hnil⟩)
          subst hE0
          clear hnil
          go_wp2
          go_ret2
          exact ⟨ret_ii HV.out.1.symm HV.out.2.symm, rfl⟩
        · have hne : EB.toList.isEmpty = false := nonempty_of EB (by rw [HNE.out]; exact fun h => hnil (List.eq_nil_of_length_eq_zero h))
          have HN := Lib.hid hnil
          have hEb : EB.size ≤ 120002 := by omega
          clear hnil
          by_cases hq1 : q < 0
          · have HV := Lib.hid (ref_no p (by have := HW.out.1; omega) (by have := HW.out.2; omega) HN.out (.inl (HQ.out.symm ▸ hq1)))
            go_wp2
            go_ret2
            exact ⟨ret_ii (HP.out.1.trans HV.out.1).symm (HP.out.2.trans HV.out.2).symm, rfl⟩
          · by_cases hq2 : 19 < (EB.size : Int) + q
            · have HV := Lib.hid (ref_no p (by have := HW.out.1; omega) (by have := HW.out.2; omega) HN.out (.inr (by rw [HQ.out, ← HNE.out]; exact hq2)))
              go_wp2
              go_ret2
              exact ⟨ret_ii (HP.out.1.trans HV.out.1).symm (HP.out.2.trans HV.out.2).symm, rfl⟩
            · have HV := Lib.hid (ref_yes p (by have := HW.out.1; omega) (by have := HW.out.2; omega) HN.out (by rw [HQ.out]; omega) (by rw [HQ.out, ← HNE.out]; omega))
              obtain ⟨c, hc⟩ : ∃ c : Nat, q = c := ⟨q.toNat, by omega⟩
              subst hc
              have hc19 : c ≤ 19 := by omega
              have hE19 : EB.size ≤ 19 := by omega
              have HC := Lib.hid (show (pwP p).toNat = c by rw [HQ.out]; rfl)
              have HCE : Hid (EB.size + c ≤ 19) := Lib.hid (by omega)
              clear hq1 hqb nDG nFB2 nEB2 hi hs2 hR2 hRI
              go_wp2_with fail
              go_loop [5, 13] (fun d i => ∃ (j : Nat) (O : ByteArray), j ≤ c ∧ i = .int .i64 j ∧ d = .string O ∧ O.data.toList = bareL p ++ List.replicate j 48) (fun _ i => c - (intOf i).toNat)
              case atStart => exact ⟨0, EB, by omega, rfl, rfl, by rw [HEB.out, mk_list]; simp⟩
              case round =>
                obtain ⟨j, O, hj, rfl, rfl, hO⟩ := hrel
                have hOs : O.size ≤ 19 := by
                  have h1 : O.size = O.data.toList.length := by simp
                  rw [h1, hO, List.length_append, List.length_replicate, ← HNE.out]
                  have := HCE.out
                  omega
                have HO := Lib.hid hO
                clear hO
                by_cases hlt : j < c
                · have HN2 := Lib.hid (show (O ++ ⟨#[48]⟩ : ByteArray).data.toList = bareL p ++ List.replicate (j + 1) 48 by
                    rw [app_data2, HO.out, List.replicate_succ', List.append_assoc])
                  go_wp2
                  go_round
                  case rel => exact ⟨j + 1, O ++ ⟨#[48]⟩, by omega, by go_num, rfl, HN2.out⟩
                  case measure => simp [intOf]; omega
                · obtain rfl : j = c := by omega
                  obtain ⟨N, hN⟩ : ∃ N, N = valL (bareL p ++ List.replicate j 48) := ⟨_, rfl⟩
                  have HVN := Lib.hid (show valV p = numV N p.below ∧ valE p = numE N by rw [hN]; have := HV.out; rw [HC.out] at this; exact this)
                  have HNN := Lib.hid hN
                  have hBF : Figs (bareL p) := by
                    refine Figs.sub HFG.out fun c hc => ?_
                    have h1 : c ∈ frontL p := trimR_sub2 _ _ hc
                    rw [HF.out] at h1
                    exact trimL_sub2 _ _ h1
                  have HBF := Lib.hid (hBF.append (figs_zeros j))
                  clear hN hBF hlt
                  go_wp2_with fail
                  go_loop [5] (fun d => ∃ (m : Nat) (O2 : ByteArray), d = .string O2 ∧ O2.size ≤ 19 ∧ O2.data.toList = List.replicate m 48 ++ (bareL p ++ List.replicate j 48)) (fun d => 19 - Lib.strSize d)
                  case atStart => exact ⟨0, O, rfl, hOs, HO.out⟩
                  case round =>
                    obtain ⟨m, T, rfl, hTs, hT⟩ := hrel
                    have HT := Lib.hid hT
                    clear hT
                    by_cases h19 : T.size < 19
                    · have hI : (T.size : Int) < 19 := by omega
                      have HN2 := Lib.hid (show ((⟨#[48]⟩ : ByteArray) ++ T).data.toList = List.replicate (m + 1) 48 ++ (bareL p ++ List.replicate j 48) by
                        rw [app_data3, HT.out]; rfl)
                      have hsz := Lib.hid (show ((⟨#[48]⟩ : ByteArray) ++ T).size = T.size + 1 by rw [ByteArray.size_append]; show 1 + _ = _; omega)
                      go_wp2
                      go_round
                      case rel => exact ⟨m + 1, ⟨#[48]⟩ ++ T, rfl, by rw [hsz.out]; omega, HN2.out⟩
                      case measure => simp only [Lib.strSize_string]; have := hsz.out; omega
                    · have hI : ¬ (T.size : Int) < 19 := by omega
                      have hTF := Lib.hid (show Figs T.data.toList by rw [HT.out]; exact (figs_zeros m).append HBF.out)
                      have hTV := Lib.hid (show valL T.data.toList = N by rw [HT.out, valL_ahead, HNN.out])
                      have hT19 : T.size = 19 := by omega
                      have hT19x := hT19
                      have HT19 := Lib.hid hT19
                      clear hT19 h19
                      have hlm : T.data.toList.length = maxL.length := by rw [size_list]; exact hT19x
                      have hless := less_val T.data.toList maxL hTF.out max_figs hlm
                      rw [hTV.out, max_val] at hless
                      have tl : T.toList = T.data.toList := Lib.toList_data T
                      rcases Nat.lt_trichotomy N 9000000000000000000 with hN | hN | hN
                      · have g1 : Op.bytesLess T.toList [57, 48, 48, 48, 48, 48, 48, 48, 48, 48, 48, 48, 48, 48, 48, 48, 48, 48, 48] = true := by rw [tl]; exact hless.trans (decide_eq_true hN)
                        have HLE := Lib.hid (show N ≤ 9000000000000000000 by omega)
                        clear hless tl hlm hN hT19x
                        go_wp2_with fail
                        clear g1
                        go_loop [14, 15] (fun n i => ∃ k : Nat, k ≤ 19 ∧ i = .int .i64 k ∧ n = .int .i64 (valL (T.data.toList.take k))) (fun _ i => 19 - (intOf i).toNat)
                        case atStart => exact ⟨0, by omega, rfl, rfl⟩
                        case round =>
                          obtain ⟨k, hk, rfl, rfl⟩ := hrel
                          have hTI : (T.size : Int) = 19 := by rw [HT19.out]; rfl
                          by_cases hk19 : k < 19
                          · have hlt : k < T.size := by rw [HT19.out]; exact hk19
                            have hff := fig_yes (hTF.out.at k hlt)
                            have HS := Lib.hid (show valL (T.data.toList.take (k + 1)) = 10 * valL (T.data.toList.take k) + ((T[k]'hlt).toNat - 48) by rw [take_snoc T k hlt, valL_snoc])
                            have hm : valL (T.data.toList.take (k + 1)) ≤ 9000000000000000000 := by
                              have h1 := valL_take T.data.toList (k + 1)
                              rw [hTV.out] at h1
                              exact Nat.le_trans h1 HLE.out
                            obtain ⟨v, hv⟩ : ∃ v, v = valL (T.data.toList.take k) := ⟨_, rfl⟩
                            obtain ⟨r, hr⟩ : ∃ r, r = (T[k]'hlt).toNat := ⟨_, rfl⟩
                            have hx : ((T[k]'hlt).toNat : Int) = (r : Int) := by rw [hr]
                            rw [← hr] at hff HS
                            rw [← hv] at HS ⊢
                            rw [HS.out] at hm
                            have hr1 : (48 : Int) ≤ r := by omega
                            have hr2 : (r : Int) ≤ 57 := by omega
                            have hm2 : (v : Int) ≤ 900000000000000000 := by omega
                            have hm3 : 10 * (v : Int) + ((r : Int) - 48) ≤ 9000000000000000000 := by omega
                            have hkI : (k : Int) < 19 := by omega
                            clear hff hm hr hv
                            go_wp2
                            go_round
                            case rel =>
                              refine ⟨k + 1, by omega, by go_num, ?_⟩
                              rw [HS.out]
                              congr 1
                              omega
                            case measure => simp [intOf]; omega
                          · obtain rfl : k = 19 := by omega
                            have HTT := Lib.hid (show valL (T.data.toList.take 19) = N by rw [List.take_of_length_le (by rw [size_list, HT19.out]; exact Nat.le_refl _), hTV.out])
                            rw [HTT.out]
                            have hN9 : (N : Int) ≤ 9000000000000000000 := by have := HLE.out; omega
                            have HV1 := Lib.hid (show numE N = 0 from if_pos HLE.out)
                            have HV2 := Lib.hid (show numV N p.below = if p.below = true then -(N : Int) else (N : Int) from if_pos HLE.out)
                            clear hk19 hk
                            cases b0
                            · have HV3 := Lib.hid (show numV N p.below = (N : Int) by rw [HV2.out, ← HB2.out]; rfl)
                              go_wp2
                              go_ret2
                              exact ⟨ret_ii (by rw [HP.out.1, HVN.out.1, HV3.out]) (by rw [HP.out.2, HVN.out.2, HV1.out]), rfl⟩
                            · have HV3 := Lib.hid (show numV N p.below = -(N : Int) by rw [HV2.out, ← HB2.out]; rfl)
                              go_wp2
                              go_ret2
                              exact ⟨ret_ii (by rw [HP.out.1, HVN.out.1, HV3.out]) (by rw [HP.out.2, HVN.out.2, HV1.out]), rfl⟩
                      · have g1 : Op.bytesLess T.toList [57, 48, 48, 48, 48, 48, 48, 48, 48, 48, 48, 48, 48, 48, 48, 48, 48, 48, 48] = false := by rw [tl]; exact hless.trans (decide_eq_false (by omega))
                        have g2 : (T.toList == [57, 48, 48, 48, 48, 48, 48, 48, 48, 48, 48, 48, 48, 48, 48, 48, 48, 48, 48]) = true := by
                          rw [tl, eq_val T.data.toList maxL hTF.out max_figs hlm (by rw [hTV.out, max_val, hN])]
                          decide
                        have HLE := Lib.hid (show N ≤ 9000000000000000000 by omega)
                        clear hless tl hlm hN hT19x
                        go_wp2_with fail
                        clear g1 g2
                        go_loop [14, 15] (fun n i => ∃ k : Nat, k ≤ 19 ∧ i = .int .i64 k ∧ n = .int .i64 (valL (T.data.toList.take k))) (fun _ i => 19 - (intOf i).toNat)
                        case atStart => exact ⟨0, by omega, rfl, rfl⟩
                        case round =>
                          obtain ⟨k, hk, rfl, rfl⟩ := hrel
                          have hTI : (T.size : Int) = 19 := by rw [HT19.out]; rfl
                          by_cases hk19 : k < 19
                          · have hlt : k < T.size := by rw [HT19.out]; exact hk19
                            have hff := fig_yes (hTF.out.at k hlt)
                            have HS := Lib.hid (show valL (T.data.toList.take (k + 1)) = 10 * valL (T.data.toList.take k) + ((T[k]'hlt).toNat - 48) by rw [take_snoc T k hlt, valL_snoc])
                            have hm : valL (T.data.toList.take (k + 1)) ≤ 9000000000000000000 := by
                              have h1 := valL_take T.data.toList (k + 1)
                              rw [hTV.out] at h1
                              exact Nat.le_trans h1 HLE.out
                            obtain ⟨v, hv⟩ : ∃ v, v = valL (T.data.toList.take k) := ⟨_, rfl⟩
                            obtain ⟨r, hr⟩ : ∃ r, r = (T[k]'hlt).toNat := ⟨_, rfl⟩
                            have hx : ((T[k]'hlt).toNat : Int) = (r : Int) := by rw [hr]
                            rw [← hr] at hff HS
                            rw [← hv] at HS ⊢
                            rw [HS.out] at hm
                            have hr1 : (48 : Int) ≤ r := by omega
                            have hr2 : (r : Int) ≤ 57 := by omega
                            have hm2 : (v : Int) ≤ 900000000000000000 := by omega
                            have hm3 : 10 * (v : Int) + ((r : Int) - 48) ≤ 9000000000000000000 := by omega
                            have hkI : (k : Int) < 19 := by omega
                            clear hff hm hr hv
                            go_wp2
                            go_round
                            case rel =>
                              refine ⟨k + 1, by omega, by go_num, ?_⟩
                              rw [HS.out]
                              congr 1
                              omega
                            case measure => simp [intOf]; omega
                          · obtain rfl : k = 19 := by omega
                            have HTT := Lib.hid (show valL (T.data.toList.take 19) = N by rw [List.take_of_length_le (by rw [size_list, HT19.out]; exact Nat.le_refl _), hTV.out])
                            rw [HTT.out]
                            have hN9 : (N : Int) ≤ 9000000000000000000 := by have := HLE.out; omega
                            have HV1 := Lib.hid (show numE N = 0 from if_pos HLE.out)
                            have HV2 := Lib.hid (show numV N p.below = if p.below = true then -(N : Int) else (N : Int) from if_pos HLE.out)
                            clear hk19 hk
                            cases b0
                            · have HV3 := Lib.hid (show numV N p.below = (N : Int) by rw [HV2.out, ← HB2.out]; rfl)
                              go_wp2
                              go_ret2
                              exact ⟨ret_ii (by rw [HP.out.1, HVN.out.1, HV3.out]) (by rw [HP.out.2, HVN.out.2, HV1.out]), rfl⟩
                            · have HV3 := Lib.hid (show numV N p.below = -(N : Int) by rw [HV2.out, ← HB2.out]; rfl)
                              go_wp2
                              go_ret2
                              exact ⟨ret_ii (by rw [HP.out.1, HVN.out.1, HV3.out]) (by rw [HP.out.2, HVN.out.2, HV1.out]), rfl⟩
                      · have g1 : Op.bytesLess T.toList [57, 48, 48, 48, 48, 48, 48, 48, 48, 48, 48, 48, 48, 48, 48, 48, 48, 48, 48] = false := by rw [tl]; exact hless.trans (decide_eq_false (by omega))
                        have g2 : (T.toList == [57, 48, 48, 48, 48, 48, 48, 48, 48, 48, 48, 48, 48, 48, 48, 48, 48, 48, 48]) = false := by
                          rw [tl, beq_eq_false_iff_ne]
                          intro h
                          have h2 : valL T.data.toList = valL maxL := congrArg valL h
                          rw [hTV.out, max_val] at h2
                          omega
                        have hle : ¬ N ≤ 9000000000000000000 := by omega
                        have HV1 := Lib.hid (show numE N = 12 from if_neg hle)
                        have HV2 := Lib.hid (show numV N p.below = 0 from if_neg hle)
                        clear hless tl hlm hN hle hT19x
                        go_wp2
                        go_ret2
                        exact ⟨ret_ii (by rw [HP.out.1, HVN.out.1, HV2.out]) (by rw [HP.out.2, HVN.out.2, HV1.out]), rfl⟩
end Go.Proofs.YtoeddhkbifeamaaDoor
