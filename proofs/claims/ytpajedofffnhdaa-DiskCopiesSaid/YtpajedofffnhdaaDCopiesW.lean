/- The walk of DiskCopies. -/
import Derived.Test.YtpajedofffnhdaaDCopies
import Derived.Deep.RegionHeldLaw
import Derived.Deep.CutRange
namespace Go.Proofs.Ytpajedofffnhdaa
open Go.RowKit
set_option linter.unusedVariables false

theorem full_764 (w : World) : Calls Try.prog 28 #[.int .u8 7, .int .i64 64] w fun e w' => e = .returned (.slice (some ⟨w.heap.size, 0, none⟩) 64 64) ∧ BRow w' w.heap.size 64 (fun _ => 7) ∧ Below w.heap.size w w' := full_any 7 64 w (by omega) (by omega)

set_option maxRecDepth 100000 in
set_option maxHeartbeats 4000000 in
theorem diskCopies_gen [E : Spare] (A1 A2 : Option Addr) (n1 c1 n2 c2 : Nat) (X1 X2 : Nat → ActD) (w : World) (h1 : Acts w A1 n1 X1) (h2 : Acts w A2 n2 X2) (hE : ∀ g, Spare.ok g) :
    Calls Try.prog 5 #[.slice A1 n1 c1, .slice A2 n2 c2] w fun e w' => e = .returned (.bool true) ∧ Below w.heap.size w w' := by
  have K1 := Lib.hid h1
  have K2 := Lib.hid h2
  have hn1 := h1.1
  have hn2 := h2.1
  clear h1 h2
  go_enter Try.func5, Try.ntmps5
  go_wp2_with fail
  refine (light_any A1 n1 c1 X1 w K1.out).mono ?_
  rintro e w' ⟨rfl, rfl⟩
  obtain ⟨b1, hb1⟩ : ∃ b, b = lightB n1 X1 := ⟨_, rfl⟩
  rw [← hb1]
  have HB1 := Lib.hid hb1
  clear hb1
  rcases b1 with _ | _
  · go_wp2
    go_ret
    exact ⟨rfl, Below.refl _ _⟩
  go_wp2_with fail
  refine (light_any A2 n2 c2 X2 w K2.out).mono ?_
  rintro e w' ⟨rfl, rfl⟩
  obtain ⟨b2, hb2⟩ : ∃ b, b = lightB n2 X2 := ⟨_, rfl⟩
  rw [← hb2]
  have HB2 := Lib.hid hb2
  clear hb2
  rcases b2 with _ | _
  · go_wp2
    go_ret
    exact ⟨rfl, Below.refl _ _⟩
  have g1 : n1 ≤ 40 := by have := HB1.out; unfold lightB at this; exact (of_decide_eq_true this.symm).1
  have g2 : n2 ≤ 40 := by have := HB2.out; unfold lightB at this; exact (of_decide_eq_true this.symm).1
  have hE' := Lib.hid hE
  clear hE
  go_wp2_with fail
  refine (new_ok 6 64 w (by omega) (by omega) (fun g _ => hE'.out g)).mono ?_
  rintro e w1 ⟨M0, rfl, d1, l1⟩
  have O1 := Lib.hid (show On w w.heap.size M0 (newS 6 64) w1 from ⟨d1, l1, Nat.le_refl _⟩)
  clear d1 l1
  go_wp2
  go_loopw [6] (fun i wr => ∃ k : Nat, k ≤ n1 ∧ i = .int .i64 k ∧ ∃ v', On w w.heap.size { M0 with vl := v' } (runS (newS 6 64) X1 k) wr) (fun i _ => n1 - (intOf i).toNat)
  case atStart => exact ⟨0, Nat.zero_le _, rfl, M0.vl, O1.out⟩
  case round =>
    obtain ⟨k, hk, rfl, v', ho⟩ := hrel
    have HO := Lib.hid ho
    clear ho
    by_cases hlt : k < n1
    · obtain ⟨b, o, rfl, hc⟩ := K1.out.2.2 (by omega)
      have hck := (hc k hlt).keep (HO.out.b.block b (hc k hlt).blk)
      have ok := Lib.hid ((K1.out.2.1 k hlt).below HO.out.b (Nat.le_refl _))
      have y0 := hck.c0
      have y1 := hck.c1
      have y2 := hck.c2
      have y3 := hck.c3
      have y4 := hck.c4
      clear hc hck
      go_wp2_with fail
      have hlen := (runS_N (newS 6 64) X1 k).2.2
      have hl0 : (newS 6 64).loose.length = 0 := rfl
      refine (did_any (X1 k) wr w.heap.size { M0 with vl := v' } (runS (newS 6 64) X1 k) HO.out.d HO.out.le (by omega) ok.out ((K1.out.2.1 k hlt).f.apart (Nat.le_refl _) HO.out.d)).mono ?_
      rintro e w2 ⟨rfl, LF⟩
      obtain ⟨v2, o2⟩ := HO.out.left LF
      have HO2 := Lib.hid (show On w w.heap.size { M0 with vl := v2 } (runS (newS 6 64) X1 (k + 1)) w2 from o2)
      clear o2 LF y0 y1 y2 y3 y4 hlen hl0
      go_wp2
      go_roundw
      case rel => exact ⟨k + 1, by omega, by go_num, v2, HO2.out⟩
      case measure => simp [intOf]; omega
    · obtain rfl : k = n1 := by omega
      obtain ⟨SA, hSA⟩ : ∃ SA, SA = runS (newS 6 64) X1 k := ⟨_, rfl⟩
      have IA := Lib.hid (show NowInv SA from hSA ▸ runS_inv (NowInv.new 6 64) X1 k)
      have NA := Lib.hid (show SA.N = 6 ∧ SA.size = 64 ∧ SA.loose.length ≤ k from by rw [hSA]; exact ⟨(runS_N _ _ _).1, (runS_N _ _ _).2.1, by have := (runS_N (newS 6 64) X1 k).2.2; simpa [newS] using this⟩)
      have HA := Lib.hid (show On w w.heap.size { M0 with vl := v' } SA wr from hSA ▸ HO.out)
      clear hSA HO O1
      obtain ⟨wa, hwa⟩ : ∃ wa, wa = wr := ⟨_, rfl⟩
      subst hwa
      go_wp2_with fail
      refine (copy_any wa w.heap.size { M0 with vl := v' } SA HA.out.d).mono ?_
      rintro e wc ⟨Mc, rfl, oc⟩
      rw [copy_state IA.out] at oc
      have HC := Lib.hid oc
      clear oc
      go_wp2_with fail
      refine (copy_any wc w.heap.size { M0 with vl := v' } SA (HA.out.below HC.out.b).d).mono ?_
      rintro e we ⟨Me, rfl, oe⟩
      rw [copy_state IA.out] at oe
      have HF := Lib.hid (Far.of_new HC.out.d oe.d)
      have HDE := Lib.hid oe.d
      have HCE := Lib.hid (show On we wa.heap.size Mc SA we from ⟨HC.out.d.below oe.b, Below.refl _ _, Nat.le_trans HC.out.b.size oe.b.size⟩)
      have HD := Lib.hid (show On w w.heap.size { M0 with vl := v' } SA we from (HA.out.below HC.out.b).below oe.b)
      have hz2 : wa.heap.size ≤ wc.heap.size := HC.out.b.size
      have HDl := Lib.hid HA.out.d
      have HAl := Lib.hid HA.out.b
      have HBl := Lib.hid (HC.out.b.trans (oe.b.mono HC.out.b.size))
      clear oe HC HA
      go_wp2
      go_loopw [9] (fun i wq => ∃ q : Nat, q ≤ n2 ∧ i = .int .i64 q ∧ ∃ vc, On we wa.heap.size { Mc with vl := vc } (runS SA X2 q) wq ∧ Dsk wq wc.heap.size Me SA ∧ Far { Mc with vl := vc } Me) (fun i _ => n2 - (intOf i).toNat)
      case atStart => exact ⟨0, Nat.zero_le _, rfl, Mc.vl, HCE.out, HDE.out, HF.out⟩
      case round =>
        obtain ⟨q, hq, rfl, vc, ho, hd, hf⟩ := hrel
        have HO := Lib.hid ho
        have HDq := Lib.hid hd
        have HFq := Lib.hid hf
        clear ho hd hf
        by_cases hlt2 : q < n2
        · obtain ⟨b, o, rfl, hc⟩ := K2.out.2.2 (by omega)
          have LB := Lib.hid (HAl.out.trans (((HBl.out.trans (HO.out.b)).mono HAl.out.size)))
          have hck := (hc q hlt2).keep (LB.out.block b (hc q hlt2).blk)
          have ok := Lib.hid ((K2.out.2.1 q hlt2).below LB.out (Nat.le_refl _))
          have y0 := hck.c0
          have y1 := hck.c1
          have y2 := hck.c2
          have y3 := hck.c3
          have y4 := hck.c4
          clear hc hck
          go_wp2_with fail
          have hlen := (runS_N SA X2 q).2.2
          have hl0 := NA.out.2.2
          refine (did_any (X2 q) wr wa.heap.size { Mc with vl := vc } (runS SA X2 q) HO.out.d HO.out.le (by omega) ok.out ((K2.out.2.1 q hlt2).f.apart HAl.out.size HO.out.d)).mono ?_
          rintro e w2 ⟨rfl, LF⟩
          obtain ⟨v2, d2, t2, e2, f2⟩ := HO.out.d.other HDq.out HFq.out hz2 LF
          have HO2 := Lib.hid (show On we wa.heap.size { Mc with vl := v2 } (runS SA X2 (q + 1)) w2 from HO.out.to d2 t2)
          have HD2 := Lib.hid e2
          have HF2 := Lib.hid f2
          clear d2 t2 e2 f2 LF y0 y1 y2 y3 y4 hlen hl0
          go_wp2
          go_roundw
          case rel => exact ⟨q + 1, by omega, by go_num, v2, HO2.out, HD2.out, HF2.out⟩
          case measure => simp [intOf]; omega
        · obtain rfl : q = n2 := by omega
          have HD3 := Lib.hid (show Dsk wr w.heap.size { M0 with vl := v' } SA from HDl.out.below (HBl.out.trans HO.out.b))
          have HB3 := Lib.hid (HAl.out.trans ((HBl.out.trans HO.out.b).mono HAl.out.size))
          clear HO HF HDE HCE HD HDl HBl HAl HFq
          obtain ⟨wz, hwz⟩ : ∃ wz, wz = wr := ⟨_, rfl⟩
          subst hwz
          go_wp2
          go_loopw [10] (fun i wq => ∃ p : Nat, p ≤ 6 ∧ i = .int .i64 p ∧ Below wz.heap.size wz wq) (fun i _ => 6 - (intOf i).toNat)
          case atStart => exact ⟨0, by omega, rfl, Below.refl _ _⟩
          case round =>
            obtain ⟨p, hp, rfl, hl⟩ := hrel
            have HL := Lib.hid hl
            clear hl
            by_cases hlt3 : p < 6
            · go_wp2_with fail
              refine (read_any p wr w.heap.size { M0 with vl := v' } SA (HD3.out.below HL.out)).mono ?_
              rintro e w3 ⟨A3, d3, rfl, b3, l3⟩
              have L3 := Lib.hid (HL.out.trans (l3.mono HL.out.size))
              have B3 := Lib.hid b3
              clear b3 l3
              go_wp2_with fail
              refine (read_any p w3 wc.heap.size Me SA (HDq.out.below L3.out)).mono ?_
              rintro e w4 ⟨A4, d4, rfl, b4, l4⟩
              have L4 := Lib.hid (L3.out.trans (l4.mono L3.out.size))
              have cv1 := conv_any d3 (B3.out.below l4 (Nat.le_refl _))
              have cv2 := conv_any d4 b4
              obtain ⟨nn, hnn⟩ : ∃ nn, nn = readN SA p := ⟨_, rfl⟩
              obtain ⟨er, her⟩ : ∃ er, er = reachI SA p := ⟨_, rfl⟩
              obtain ⟨st, hst⟩ : ∃ st, st = strF (SA.now (Int.toNat p)) nn := ⟨_, rfl⟩
              rw [← hnn, ← hst] at cv1 cv2
              rw [← hnn, ← her]
              have q1 : (er != er) = false := by simp
              have q2 : (!(st.toList == st.toList)) = false := by simp
              clear b4 l4 B3 hnn her hst
              go_wp2
              go_roundw
              case rel => exact ⟨p + 1, by omega, by go_num, L4.out⟩
              case measure => simp [intOf]; omega
            · obtain rfl : p = 6 := by omega
              have D4 := Lib.hid (HD3.out.below HL.out)
              have B4 := Lib.hid (HB3.out.trans (HL.out.mono HB3.out.size))
              clear HD3 HL HDq HB3
              have H4 := Lib.hid (show On w w.heap.size { M0 with vl := v' } SA wr from ⟨D4.out, B4.out, Nat.le_refl _⟩)
              clear D4 B4
              go_wp2_with fail
              refine (crash_any none 0 0 (fun _ => 0) wr w.heap.size { M0 with vl := v' } SA H4.out.d H4.out.le ⟨by omega, fun i hi => absurd hi (by omega), fun h => absurd h (by omega)⟩ (fun h => absurd h (by omega))).mono ?_
              rintro e w5 ⟨rfl, d5, t5, _⟩
              have H5 := Lib.hid (H4.out.to d5 t5)
              clear d5 t5 H4
              obtain ⟨S5, hS5⟩ : ∃ S5, S5 = crashS SA (fun _ => 0) 0 := ⟨_, rfl⟩
              have N5 := Lib.hid (show S5.N = 6 ∧ S5.size = 64 ∧ S5.loose = [] ∧ S5.armed = 0 ∧ S5.down = false by rw [hS5]; exact ⟨NA.out.1, NA.out.2.1, rfl, rfl, rfl⟩)
              rw [← hS5] at H5
              clear hS5
              go_wp2_with fail
              refine (full_764 w5).mono ?_
              rintro e w6 ⟨rfl, r6, l6⟩
              have lt6 := r6.lt
              have D5 := Lib.hid H5.out.d
              have L5 := Lib.hid H5.out.b
              have Z5 := H5.out.le
              have z5 : w.heap.size ≤ w5.heap.size := H5.out.le
              clear H5
              obtain ⟨E', hok⟩ : ∃ E' : Spare, ∀ g, E'.ok g ↔ g ≠ w5.heap.size := ⟨⟨fun g => g ≠ w5.heap.size⟩, fun _ => Iff.rfl⟩
              have D6 := Lib.hid (@Dsk.respare E E' _ _ _ _ _ D5.out l6 (fun g hg => (hok g).2 (by omega)) (fun g hg => (hok g).2 (by omega)))
              have L6 := Lib.hid (L5.out.trans (l6.mono Z5))
              have NO := Lib.hid (show ¬ E'.ok w5.heap.size from fun q => (hok _).1 q rfl)
              have R6 := Lib.hid r6
              have B6 := Lib.hid ((r6.bytes (o := 0) (m := 64) (by omega)).congr (G := fun _ => 7) fun i _ => rfl)
              have z6 : w.heap.size ≤ w6.heap.size := L6.out.size
              clear r6 l6 hok D5 L5 Z5
              go_wp2_with fail
              have WO := @write_ok E' 0 w5.heap.size 0 64 (fun _ => 7) w6 w.heap.size { M0 with vl := .slice none 0 0 } S5 D6.out z6 N5.out.2.2.2.2 (by rw [N5.out.1]; omega) (by rw [N5.out.2.2.1]; simp) (by rw [N5.out.2.1]; exact B6.out)
              rw [N5.out.2.1, show strikeI (keepS S5 0 fun _ => 7) = 0 from by unfold strikeI; rw [if_neg (by show ¬ S5.armed = 1; rw [N5.out.2.2.2.1]; omega)]] at WO
              refine WO.mono ?_
              clear WO
              rintro e w7 ⟨rfl, L7⟩
              have R7 := Lib.hid (@BRow.left E' _ _ _ _ _ _ _ _ _ R6.out D6.out L7)
              have O6 : @On E' w6 w.heap.size { M0 with vl := .slice none 0 0 } S5 w6 := @On.mk E' _ _ _ _ _ D6.out (Below.refl _ _) z6
              obtain ⟨v7, o7⟩ := @On.left _ _ _ _ _ _ _ E' O6 L7
              have H7 := Lib.hid o7
              clear o7 O6 L7 R6 D6
              obtain ⟨S7, hS7⟩ : ∃ S7, S7 = strikeS (keepS S5 0 fun _ => 7) := ⟨_, rfl⟩
              have N7 := Lib.hid (show S7.N = 6 ∧ S7.size = 64 ∧ S7.down = false ∧ S7.now 0 = fun _ => 7 by
                rw [hS7]
                refine ⟨(strikeS_N _).trans N5.out.1, (strikeS_size _).trans N5.out.2.1, ?_, by rw [strikeS_now]; rfl⟩
                unfold strikeS
                rw [if_pos (show (keepS S5 0 fun _ => 7).armed = 0 from N5.out.2.2.2.1)]
                exact N5.out.2.2.2.2)
              rw [← hS7] at H7
              clear hS7 N5
              obtain ⟨cs7, hc7, _⟩ := id R7.out.1
              have y0 := R7.out.cell (i := 0) (by omega)
              have f0 := R7.out.frozen 0
              have D7 := Lib.hid (@Dsk.apartStore E' w7 w.heap.size w5.heap.size 0 _ S7 cs7 (.int .u8 9) (@On.d E' _ _ _ _ _ H7.out) hc7 NO.out)
              have L7 := Lib.hid (L6.out.trans ((@On.b E' _ _ _ _ _ H7.out).setCell (p := ⟨w5.heap.size, 0, none⟩) (show w.heap.size ≤ w5.heap.size by omega) (.int .u8 9)))
              clear hc7 H7 R7 B6
              go_upto_region 24 with (fail)
              generalize w7.setCell ⟨w5.heap.size, 0, none⟩ (.int .u8 9) = w8 at D7 L7 ⊢
              go_wp2_with fail
              have RO := @readDisk_ok E' 0 w8 w.heap.size { M0 with vl := v7 } S7 D7.out (by rw [N7.out.1]; omega) N7.out.2.2.1
              rw [N7.out.2.1, N7.out.2.2.2] at RO
              refine RO.mono ?_
              clear RO
              rintro e w9 ⟨rfl, r9, l9⟩
              have y1 := r9.cell (i := 1) (by omega)
              have f1 := r9.frozen 1
              have l10 : Below w8.heap.size w8 (w9.setCell ⟨w8.heap.size, 1, none⟩ (.int .u8 9)) := l9.setCell (p := ⟨w8.heap.size, 1, none⟩) (Nat.le_refl _) _
              have D10 := Lib.hid (@Dsk.below _ _ _ _ _ E' D7.out l10)
              have L10 := Lib.hid (L7.out.trans (l10.mono L7.out.size))
              have q64 : ((64 : Int) != 64) = false := by simp
              clear r9 l9 l10 D7 L7
              go_upto_region 28 with (fail)
              generalize w9.setCell ⟨w8.heap.size, 1, none⟩ (.int .u8 9) = w10 at D10 L10 ⊢
              go_wp2_with fail
              have RO := @readDisk_ok E' 0 w10 w.heap.size { M0 with vl := v7 } S7 D10.out (by rw [N7.out.1]; omega) N7.out.2.2.1
              rw [N7.out.2.1, N7.out.2.2.2] at RO
              refine RO.mono ?_
              clear RO
              rintro e w11 ⟨rfl, r11, l11⟩
              have L11 := Lib.hid (L10.out.trans (l11.mono L10.out.size))
              have R11 := Lib.hid r11
              have KS := Lib.hid (show ∀ W, Below w11.heap.size w11 W → (convert 41 9 (.slice (some ⟨w10.heap.size, 0, none⟩) 64 64)).run Try.prog W = .ok (.string (strF (fun _ => 7) 64)) W from fun W l => keep_conv R11.out l)
              clear r11 l11 L10 D10
              go_wp2
              go_region_held_law (fun W => (convert 41 9 (.slice (some ⟨w10.heap.size, 0, none⟩) 64 64)).run Try.prog W = .ok (.string (strF (fun _ => 7) 64)) W)
                (first | exact KS.out _ LB | exact KS.out _ LA | exact KS.out _ (Below.refl _ _).drew)
                (first
                  | (go_at_call 28; refine (full_764 _).mono ?_; rintro e WA ⟨rfl, rA, lA⟩; have LA : Below w11.heap.size w11 WA := ((Below.refl w11.heap.size w11).drew).trans lA; have kd : (convert 41 9 (.slice (some ⟨w11.heap.size, 0, none⟩) 64 64)).run Try.prog WA = .ok (.string (strF (fun _ => 7) 64)) WA := keep_conv (show BRow WA w11.heap.size 64 _ from rA) (Below.refl _ _))
                  | (go_at_call 12; refine (awake_any _).mono ?_; rintro e WB ⟨rfl, lB⟩; have LB := LA.trans (lB.mono LA.size)))
              all_goals
                go_wp2
                go_ret
                exact ⟨rfl, L11.out.trans (LB.mono L11.out.size)⟩
theorem diskCopies_walk (A1 A2 : Option Addr) (n1 c1 n2 c2 : Nat) (X1 X2 : Nat → ActD) (w : World) (h1 : Acts w A1 n1 X1) (h2 : Acts w A2 n2 X2) :
    Calls Try.prog 5 #[.slice A1 n1 c1, .slice A2 n2 c2] w fun e w' => e = .returned (.bool true) ∧ Below w.heap.size w w' :=
  @diskCopies_gen ⟨fun _ => True⟩ A1 A2 n1 c1 n2 c2 X1 X2 w h1 h2 fun _ => trivial
end Go.Proofs.Ytpajedofffnhdaa
