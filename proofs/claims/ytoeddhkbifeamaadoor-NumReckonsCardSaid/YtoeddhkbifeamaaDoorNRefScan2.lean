/- The document's Scan. -/
import Derived.Test.YtoeddhkbifeamaaDoorNRefScan
import Derived.Deep.DeepCutAuto
import Derived.Deep.CutRange
namespace Go.Proofs.YtoeddhkbifeamaaDoor
open Go.RowKit
set_option linter.unusedVariables false

theorem sign_yes {s : ByteArray} {i k : Nat} {S : List UInt8} (h : i < s.size) (hk : s[i].toNat = k) (hS : UInt8.ofNat k ∈ S) : signAt s i S = true := by
  rw [signAt_in s i S h]
  have : s[i] = UInt8.ofNat k := by rw [← hk]; simp
  rw [this]
  simpa using hS
theorem sign_no {s : ByteArray} {i : Nat} {S : List UInt8} (h : i < s.size) (hS : ∀ c ∈ S, s[i].toNat ≠ c.toNat) : signAt s i S = false := by
  rw [signAt_in s i S h, ← Bool.not_eq_true]
  intro hc
  exact hS s[i] (by simpa using hc) rfl
theorem sign_over {s : ByteArray} {i : Nat} (S : List UInt8) (h : s.size ≤ i) : signAt s i S = false := by
  rw [← Bool.not_eq_true]
  intro hc
  have := signAt_lt hc
  omega
theorem eqt (c : UInt8) (k : Nat) (h : c.toNat = k) : ((c.toNat : Int) == (k : Int)) = true := by simp [h]
theorem net (c : UInt8) (k : Nat) (h : c.toNat ≠ k) : ((c.toNat : Int) == (k : Int)) = false := by
  rw [beq_eq_false_iff_ne]
  omega
/-- How long the text is, from its point on; from its exponent on. -/
def tailLen (s : ByteArray) (i : Nat) : Nat := (cutTail s false ⟨#[]⟩ ⟨#[]⟩ i).length
def dotLen (s : ByteArray) (i : Nat) : Nat := (cutDot s false ⟨#[]⟩ i).length
theorem tail_len (s : ByteArray) (b : Bool) (wh re : ByteArray) (i : Nat) : (cutTail s b wh re i).length = tailLen s i := by
  unfold tailLen cutTail
  split
  · split <;> rfl
  · rfl
theorem dot_len (s : ByteArray) (b : Bool) (wh : ByteArray) (i : Nat) : (cutDot s b wh i).length = dotLen s i := by
  unfold dotLen cutDot
  split
  · split
    · rfl
    · rw [tail_len, tail_len]
  · rw [tail_len, tail_len]
/-- Behind the point. -/
def dotI (s : ByteArray) (i : Nat) : Nat := if signAt s i [46] = true ∧ 0 < runAt s (i + 1) then i + 1 + runAt s (i + 1) else i
theorem dot_tail (s : ByteArray) (i : Nat) : dotLen s i = tailLen s (dotI s i) := by
  unfold dotLen cutDot dotI
  by_cases h : signAt s i [46] = true
  · rw [if_pos h]
    by_cases hr : runAt s (i + 1) = 0
    · rw [if_pos hr, if_neg (by omega)]
      show i = tailLen s i
      have hlt := signAt_lt h
      have hc : signAt s i [101, 69] = false := by
        rw [signAt_in s i _ hlt] at h ⊢
        have : s[i] = 46 := by simpa using h
        rw [this]
        decide
      unfold tailLen
      rw [tail_none hc]
    · rw [if_neg hr, if_pos ⟨h, by omega⟩, tail_len]
  · rw [if_neg h, if_neg (fun x => h x.1), tail_len]
theorem dotI_le (s : ByteArray) (i : Nat) (h : i ≤ s.size) : dotI s i ≤ s.size := by
  unfold dotI
  split
  · rename_i hx
    exact runAt_le s (i + 1) (signAt_lt hx.1)
  · exact h
theorem scan_len (s : ByteArray) : (cutP s).length = if signAt s (tookI s 0 [45]) [48] = true then dotLen s (tookI s 0 [45] + 1) else if runAt s (tookI s 0 [45]) = 0 then 0 else dotLen s (tookI s 0 [45] + runAt s (tookI s 0 [45])) := by
  unfold cutP
  split
  · rw [dot_len]
  · split
    · rfl
    · rw [dot_len]
theorem zero_run (s : ByteArray) (i : Nat) (h : signAt s i [48] = true) : runAt s i ≠ 0 := by
  have hlt := signAt_lt h
  rw [signAt_in s i _ hlt] at h
  have hc : s[i] = 48 := by simpa using h
  intro h0
  unfold runAt at h0
  have hl : 0 < (s.data.toList.drop i).length := by rw [List.length_drop]; simp; omega
  have := runL_stop (s.data.toList.drop i) (by omega)
  simp only [h0] at this
  rw [List.getElem_drop] at this
  have e := byteOf s (i + 0) (by omega)
  rw [e] at this
  have : fig s[i] = false := this
  rw [hc] at this
  revert this
  decide
/-- A number's text that is not empty. -/
theorem run_lt (s : ByteArray) (i : Nat) (h : runAt s i ≠ 0) : i < s.size := by
  rcases Nat.lt_or_ge i s.size with hl | hl
  · exact hl
  · exact absurd (runAt_over s i hl) h
theorem tail_eq (s : ByteArray) (i : Nat) (h : signAt s i [101, 69] = true) : tailLen s i = if runAt s (expI s i) = 0 then i else expI s i + runAt s (expI s i) := by
  unfold tailLen cutTail
  rw [if_pos h]
  split <;> rfl
theorem exp_eq (s : ByteArray) (i : Nat) : expI s i = if signAt s (i + 1) [43, 45] = true then i + 2 else i + 1 := by
  unfold expI tookI
  rcases Nat.lt_or_ge (i + 1) s.size with hl | hl
  · rw [signAt_in s _ _ hl, signAt_in s _ _ hl, signAt_in s _ _ hl]
    by_cases h1 : s[i + 1] = 45
    · rw [h1]; rfl
    · by_cases h2 : s[i + 1] = 43
      · rw [h2]; rfl
      · rw [if_neg (by simpa using h1), if_neg (by simpa using h2), if_neg (by simp [h1, h2])]
  · rw [sign_over _ hl, sign_over _ hl, sign_over _ hl]
    rfl
def At2 (v : Value) (n : Nat) (w' w : World) : Prop := v = .int .i64 n ∧ w = w'
def Tst (v : Value) (b : Bool) (w' w : World) : Prop := v = .bool b ∧ w = w'
set_option maxHeartbeats 4000000 in
set_option maxRecDepth 100000 in
theorem refScan_any (s : ByteArray) (w : World) (hs : s.size ≤ 70000) :
    Calls Tryd.prog 12 #[.string s] w fun e w' => e = .returned (.int .i64 (cutP s).length) ∧ w = w' := by
  have hsI : (s.size : Int) ≤ 70000 := by omega
  have HS := Lib.hid (scan_len s)
  obtain ⟨i0, hi0⟩ : ∃ i, i = tookI s 0 [45] := ⟨_, rfl⟩
  have hi0s : i0 ≤ s.size := hi0 ▸ tookI_le s 0 [45] (Nat.zero_le _)
  rw [← hi0] at HS
  have HI := Lib.hid hi0
  clear hi0
  go_enter Tryd.func12, Tryd.ntmps12
  go_upto_region 2 with (fail)
  go_cut [15] (fun b w' => Tst b (signAt s 0 [45]) w' w)
  case first =>
    rcases Nat.lt_or_ge 0 s.size with hl | hl
    · by_cases hc : (s[0]'hl).toNat = 45
      · have HR := Lib.hid (sign_yes (S := [45]) hl hc (by decide))
        have t : ((((s[0]'hl).toNat : Nat) : Int) == 45) = true := eqt _ 45 hc
        clear hc
        go_wp2
        go_meet
        case rel => exact ⟨by rw [HR.out], rfl⟩
      · have HR := Lib.hid (sign_no (S := [45]) hl (by intro c hcm; rw [List.mem_singleton.1 hcm]; exact hc))
        have t : ((((s[0]'hl).toNat : Nat) : Int) == 45) = false := net _ 45 hc
        clear hc
        go_wp2
        go_meet
        case rel => exact ⟨by rw [HR.out], rfl⟩
    · have HR := Lib.hid (sign_over [45] (i := 0) (s := s) hl)
      have hl2 : ¬ 0 < s.size := by omega
      have hl3 : ¬ (0 : Int) < s.size := by omega
      go_wp2
      go_meet
      case rel => exact ⟨by rw [HR.out], rfl⟩
  case rest =>
    obtain ⟨rfl, rfl⟩ := hcut
    go_upto_if 15 with (fail)
    go_cut [3] (fun a w' => At2 a i0 w' w)
    case first =>
      cases hz : signAt s 0 [45]
      · have HR := Lib.hid (show i0 = 0 by rw [HI.out]; unfold tookI; rw [hz]; rfl)
        have hz2 := Lib.hid hz
        clear hz
        go_wp2
        go_meet
        case rel => exact ⟨by rw [HR.out]; rfl, rfl⟩
      · have HR := Lib.hid (show i0 = 1 by rw [HI.out]; unfold tookI; rw [hz]; rfl)
        have hz2 := Lib.hid hz
        clear hz
        go_wp2
        go_meet
        case rel => exact ⟨by rw [HR.out]; rfl, rfl⟩
    case rest =>
      obtain ⟨rfl, rfl⟩ := hcut
      have CR := Lib.hid fun i hi W => refRun_any s i W (by omega) hi
      go_wp2_with fail
      refine (CR.out i0 (by omega) _).mono ?_
      rintro _ _ ⟨rfl, rfl⟩
      obtain ⟨r, hr⟩ : ∃ r, r = runAt s i0 := ⟨_, rfl⟩
      have hrl := runAt_le s i0 hi0s
      have hlt := run_lt s i0
      have hzr := zero_run s i0
      rw [← hr] at hrl hlt hzr HS ⊢
      have HRR := Lib.hid hr
      have HZR := Lib.hid hzr
      clear hr hzr
      by_cases h0 : r = 0
      · have HF := Lib.hid (show (cutP s).length = 0 by
          rw [HS.out, if_neg (fun h => HZR.out h h0), if_pos h0])
        subst h0
        go_wp2
        go_ret
        exact ⟨ret_i64 (by rw [HF.out]; rfl), rfl⟩
      · have hi0l : i0 < s.size := hlt h0
        have hrI : ((r : Int) == 0) = false := by rw [beq_eq_false_iff_ne]; omega
        have H0 := Lib.hid h0
        clear hlt h0
        go_upto_if 26 with (fail)
        go_cut [4] (fun n w' => At2 n (if signAt s i0 [48] = true then 1 else r) w' w)
        case first =>
          by_cases hc : (s[i0]'hi0l).toNat = 48
          · have HR := Lib.hid (sign_yes (S := [48]) hi0l hc (by decide))
            have t : ((((s[i0]'hi0l).toNat : Nat) : Int) == 48) = true := eqt _ 48 hc
            clear hc
            go_wp2
            go_meet
            case rel => exact ⟨by rw [if_pos HR.out]; rfl, rfl⟩
          · have HR := Lib.hid (sign_no (S := [48]) hi0l (by intro c hcm; rw [List.mem_singleton.1 hcm]; exact hc))
            have t : ((((s[i0]'hi0l).toNat : Nat) : Int) == 48) = false := net _ 48 hc
            clear hc
            go_wp2
            go_meet
            case rel => exact ⟨by rw [HR.out]; rfl, rfl⟩
        case rest =>
          obtain ⟨rfl, rfl⟩ := hcut
          obtain ⟨n, hn⟩ : ∃ n, n = (if signAt s i0 [48] = true then 1 else r) := ⟨_, rfl⟩
          have hnr : n ≤ r := by
            rw [hn]
            split
            · have := H0.out; omega
            · exact Nat.le_refl _
          have HD := Lib.hid (show (cutP s).length = dotLen s (i0 + n) by
            rw [HS.out, hn]
            by_cases hz : signAt s i0 [48] = true
            · rw [if_pos hz, if_pos hz]
            · rw [if_neg hz, if_neg hz, if_neg H0.out])
          rw [← hn]
          obtain ⟨i1, hi1⟩ : ∃ i1, i1 = i0 + n := ⟨_, rfl⟩
          have hi1s : i1 ≤ s.size := by omega
          have e1 : (i0 : Int) + (n : Int) = (i1 : Int) := by omega
          rw [← hi1] at HD
          clear hn hnr hrl hi1 HS HRR HZR hrI H0
          go_upto_region 10 with (fail)
          clear e1 hi0s
          go_cut [46] (fun b w' => Tst b (signAt s i1 [46] && decide (0 < runAt s (i1 + 1))) w' w)
          case first =>
            rcases Nat.lt_or_ge i1 s.size with hl | hl
            · by_cases hc : (s[i1]'hl).toNat = 46
              · have HR := Lib.hid (sign_yes (S := [46]) hl hc (by decide))
                have t : ((((s[i1]'hl).toNat : Nat) : Int) == 46) = true := eqt _ 46 hc
                clear hc
                go_wp2_with fail
                refine (CR.out (i1 + 1) (by omega) _).mono ?_
                rintro _ _ ⟨rfl, rfl⟩
                obtain ⟨q, hq⟩ : ∃ q, q = runAt s (i1 + 1) := ⟨_, rfl⟩
                rw [← hq]
                have HQ := Lib.hid hq
                clear hq
                by_cases hq0 : 0 < q
                · have hq1 : (0 : Int) < q := by omega
                  have HQ0 := Lib.hid hq0
                  clear hq0
                  go_wp2
                  go_meet
                  case rel => exact ⟨by rw [HR.out, ← HQ.out, decide_eq_true HQ0.out]; rfl, rfl⟩
                · have hq1 : ¬ (0 : Int) < q := by omega
                  have HQ0 := Lib.hid hq0
                  clear hq0
                  go_wp2
                  go_meet
                  case rel => exact ⟨by rw [HR.out, ← HQ.out, decide_eq_false HQ0.out]; rfl, rfl⟩
              · have HR := Lib.hid (sign_no (S := [46]) hl (by intro c hcm; rw [List.mem_singleton.1 hcm]; exact hc))
                have t : ((((s[i1]'hl).toNat : Nat) : Int) == 46) = false := net _ 46 hc
                clear hc
                go_wp2
                go_meet
                case rel => exact ⟨by rw [HR.out]; rfl, rfl⟩
            · have HR := Lib.hid (sign_over [46] hl)
              have hl2 : ¬ i1 < s.size := by omega
              have hl3 : ¬ (i1 : Int) < s.size := by omega
              go_wp2
              go_meet
              case rel => exact ⟨by rw [HR.out]; rfl, rfl⟩
          case rest =>
            obtain ⟨rfl, rfl⟩ := hcut
            obtain ⟨i2, hi2⟩ : ∃ i2, i2 = dotI s i1 := ⟨_, rfl⟩
            have hi2s : i2 ≤ s.size := hi2 ▸ dotI_le s i1 hi1s
            have HT := Lib.hid (show (cutP s).length = tailLen s i2 by rw [HD.out, dot_tail, hi2])
            have HI2 := Lib.hid hi2
            obtain ⟨B, hB⟩ : ∃ B, B = (signAt s i1 [46] && decide (0 < runAt s (i1 + 1))) := ⟨_, rfl⟩
            rw [← hB]
            have HB := Lib.hid hB
            clear hi2 hB HD
            go_upto_if 46 with (fail)
            go_cut [3] (fun a w' => At2 a i2 w' w)
            case first =>
              cases B
              · have HR := Lib.hid (show i2 = i1 by
                  rw [HI2.out]
                  unfold dotI
                  rw [if_neg]
                  rintro ⟨a, b⟩
                  have := HB.out
                  rw [a, decide_eq_true b] at this
                  cases this)
                go_wp2
                go_meet
                case rel => exact ⟨by rw [HR.out], rfl⟩
              · have hb := HB.out
                have ha : signAt s i1 [46] = true := by
                  cases h : signAt s i1 [46]
                  · rw [h] at hb; cases hb
                  · rfl
                have hq : 0 < runAt s (i1 + 1) := by
                  rw [ha] at hb
                  simpa using hb.symm
                have hl := signAt_lt ha
                have hrl2 := runAt_le s (i1 + 1) hl
                have HR := Lib.hid (show i2 = i1 + 1 + runAt s (i1 + 1) by rw [HI2.out]; exact if_pos ⟨ha, hq⟩)
                clear hb ha hq HB
                go_wp2_with fail
                refine (CR.out (i1 + 1) (by omega) _).mono ?_
                rintro _ _ ⟨rfl, rfl⟩
                obtain ⟨q, hq⟩ : ∃ q, q = runAt s (i1 + 1) := ⟨_, rfl⟩
                rw [← hq] at HR hrl2 ⊢
                clear hq
                go_wp2
                go_meet
                case rel => exact ⟨by rw [HR.out]; congr 1; omega, rfl⟩
            case rest =>
              obtain ⟨rfl, rfl⟩ := hcut
              clear hi1s HI2 HB B
              go_upto_region 12 with (fail)
              go_cut [69] (fun b w' => Tst b (signAt s i2 [101, 69]) w' w)
              case first =>
                rcases Nat.lt_or_ge i2 s.size with hl | hl
                · by_cases hc : (s[i2]'hl).toNat = 101
                  · have HR := Lib.hid (sign_yes (S := [101, 69]) hl hc (by decide))
                    have t : ((((s[i2]'hl).toNat : Nat) : Int) == 101) = true := eqt _ 101 hc
                    clear hc
                    go_wp2
                    go_meet
                    case rel => exact ⟨by rw [HR.out], rfl⟩
                  · by_cases hc2 : (s[i2]'hl).toNat = 69
                    · have HR := Lib.hid (sign_yes (S := [101, 69]) hl hc2 (by decide))
                      have t : ((((s[i2]'hl).toNat : Nat) : Int) == 101) = false := net _ 101 hc
                      have t2 : ((((s[i2]'hl).toNat : Nat) : Int) == 69) = true := eqt _ 69 hc2
                      clear hc hc2
                      go_wp2
                      go_meet
                      case rel => exact ⟨by rw [HR.out], rfl⟩
                    · have HR := Lib.hid (sign_no (S := [101, 69]) hl (by intro c hcm; simp at hcm; rcases hcm with rfl | rfl; exact hc; exact hc2))
                      have t : ((((s[i2]'hl).toNat : Nat) : Int) == 101) = false := net _ 101 hc
                      have t2 : ((((s[i2]'hl).toNat : Nat) : Int) == 69) = false := net _ 69 hc2
                      clear hc hc2
                      go_wp2
                      go_meet
                      case rel => exact ⟨by rw [HR.out], rfl⟩
                · have HR := Lib.hid (sign_over [101, 69] hl)
                  have hl2 : ¬ i2 < s.size := by omega
                  have hl3 : ¬ (i2 : Int) < s.size := by omega
                  go_wp2
                  go_meet
                  case rel => exact ⟨by rw [HR.out], rfl⟩
              case rest =>
                obtain ⟨rfl, rfl⟩ := hcut
                cases hz : signAt s i2 [101, 69]
                · have HR := Lib.hid (show (cutP s).length = i2 by rw [HT.out]; unfold tailLen; rw [tail_none hz])
                  clear hz
                  go_wp2
                  go_ret
                  exact ⟨ret_i64 (by rw [HR.out]), rfl⟩
                · have hl := signAt_lt hz
                  have HR := Lib.hid (show (cutP s).length = _ from HT.out.trans (tail_eq s i2 hz))
                  clear hz
                  go_upto_region 14 with (fail)
                  go_cut [87] (fun b w' => Tst b (signAt s (i2 + 1) [43, 45]) w' w)
                  case first =>
                    rcases Nat.lt_or_ge (i2 + 1) s.size with hl | hl
                    · have hl3 : (i2 : Int) + 1 < s.size := by omega
                      have hn : ((i2 : Int) + 1).toNat = i2 + 1 := by omega
                      by_cases hc : (s[i2 + 1]'hl).toNat = 43
                      · have HX := Lib.hid (sign_yes (S := [43, 45]) hl hc (by decide))
                        have t : ((((s[i2 + 1]'hl).toNat : Nat) : Int) == 43) = true := eqt _ 43 hc
                        clear hc
                        go_wp2
                        go_meet
                        case rel => exact ⟨by rw [HX.out], rfl⟩
                      · by_cases hc2 : (s[i2 + 1]'hl).toNat = 45
                        · have HX := Lib.hid (sign_yes (S := [43, 45]) hl hc2 (by decide))
                          have t : ((((s[i2 + 1]'hl).toNat : Nat) : Int) == 43) = false := net _ 43 hc
                          have t2 : ((((s[i2 + 1]'hl).toNat : Nat) : Int) == 45) = true := eqt _ 45 hc2
                          clear hc hc2
                          go_wp2
                          go_meet
                          case rel => exact ⟨by rw [HX.out], rfl⟩
                        · have HX := Lib.hid (sign_no (S := [43, 45]) hl (by intro c hcm; simp at hcm; rcases hcm with rfl | rfl; exact hc; exact hc2))
                          have t : ((((s[i2 + 1]'hl).toNat : Nat) : Int) == 43) = false := net _ 43 hc
                          have t2 : ((((s[i2 + 1]'hl).toNat : Nat) : Int) == 45) = false := net _ 45 hc2
                          clear hc hc2
                          go_wp2
                          go_meet
                          case rel => exact ⟨by rw [HX.out], rfl⟩
                    · have HX := Lib.hid (sign_over [43, 45] hl)
                      have hl3 : ¬ (i2 : Int) + 1 < s.size := by omega
                      go_wp2
                      go_meet
                      case rel => exact ⟨by rw [HX.out], rfl⟩
                  case rest =>
                    obtain ⟨rfl, rfl⟩ := hcut
                    obtain ⟨k, hk⟩ : ∃ k, k = expI s i2 := ⟨_, rfl⟩
                    have hk2 := hk.trans (exp_eq s i2)
                    rw [← hk] at HR
                    have HK := Lib.hid hk2
                    have hks : k ≤ s.size + 1 := by
                      rw [hk2]
                      split
                      · rename_i hx
                        have := signAt_lt hx
                        omega
                      · omega
                    clear hk hk2
                    go_upto_if 87 with (fail)
                    go_cut [5] (fun a w' => At2 a k w' w)
                    case first =>
                      cases hz : signAt s (i2 + 1) [43, 45]
                      · have HX := Lib.hid (show k = i2 + 1 by rw [HK.out, hz]; rfl)
                        have hz2 := Lib.hid hz
                        clear hz
                        go_wp2
                        go_meet
                        case rel => exact ⟨by rw [HX.out]; rfl, rfl⟩
                      · have HX := Lib.hid (show k = i2 + 2 by rw [HK.out, hz]; rfl)
                        have hz2 := Lib.hid hz
                        clear hz
                        go_wp2
                        go_meet
                        case rel => exact ⟨by rw [HX.out]; congr 1, rfl⟩
                    case rest =>
                      obtain ⟨rfl, rfl⟩ := hcut
                      go_wp2_with fail
                      refine (CR.out k (by omega) _).mono ?_
                      rintro _ _ ⟨rfl, rfl⟩
                      obtain ⟨q, hq⟩ : ∃ q, q = runAt s k := ⟨_, rfl⟩
                      have hql := run_lt s k
                      have hqle := runAt_le s k
                      rw [← hq] at HR hql hqle ⊢
                      have HQ := Lib.hid hq
                      clear hq
                      by_cases hq0 : q = 0
                      · have HF := Lib.hid (HR.out.trans (if_pos hq0))
                        have hq1 : ¬ (0 : Int) < q := by omega
                        clear hq0 hql hqle
                        go_wp2
                        go_ret
                        exact ⟨ret_i64 (by rw [HF.out]), rfl⟩
                      · have HF := Lib.hid (HR.out.trans (if_neg hq0))
                        have hq1 : (0 : Int) < q := by omega
                        have hq2 := hqle (by have := hql hq0; omega)
                        clear hq0 hql hqle
                        go_wp2_with fail
                        refine (CR.out k (by omega) _).mono ?_
                        rintro _ _ ⟨rfl, rfl⟩
                        rw [← HQ.out]
                        go_wp2
                        go_ret
                        exact ⟨ret_i64 (by rw [HF.out]; omega), rfl⟩
end Go.Proofs.YtoeddhkbifeamaaDoor
