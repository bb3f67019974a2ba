/- The walk of DiskFast. -/
import Derived.Test.YtpajedofffnhdaaDState
namespace Go.Proofs.Ytpajedofffnhdaa
open Go.RowKit
set_option linter.unusedVariables false

theorem ActD.ok.below {w w' : World} {x : ActD} {B : Nat} (h : x.ok w) (hb : Below B w w') (hB : w.heap.size ≤ B) : x.ok w' := ⟨h.k, h.a, h.l, h.b, h.f.below hb hB, h.c⟩
theorem ActAt.blk {w : World} {b o : Nat} {x : ActD} (h : ActAt w b o x) : b < w.heap.size := World.block_lt_of_cell? w ⟨b, o, none⟩ h.c0
theorem Acts.below {w w' : World} {A : Option Addr} {n B : Nat} {X : Nat → ActD} (h : Acts w A n X) (hb : Below B w w') (hB : w.heap.size ≤ B) : Acts w' A n X := by
  refine ⟨h.1, fun i hi => (h.2.1 i hi).below hb hB, fun hn => ?_⟩
  obtain ⟨b, o, rfl, hc⟩ := h.2.2 hn
  exact ⟨b, o, rfl, fun i hi => (hc i hi).keep (hb.block b (by have := (hc i hi).blk; omega))⟩

theorem flush_fails {S : DS} (h : flushI S ≠ 0) : (flushD S).down = true := by
  unfold flushI at h
  unfold flushD
  by_cases hd : S.down = true
  · rw [if_pos hd]; exact hd
  · rw [if_neg hd] at h ⊢
    rcases strikeI_or S with hs | hs
    · rw [if_pos hs]
      have ha : S.armed = 1 := by
        unfold strikeI at hs
        by_cases e : S.armed = 1
        · exact e
        · rw [if_neg e] at hs; omega
      unfold strikeS
      rw [if_neg (by omega), if_pos ha]
    · exact absurd hs h
theorem flush_works {S : DS} (h : flushI S = 0) : flushD S = flushS S ∧ (flushS S).down = false := by
  unfold flushI at h
  unfold flushD
  by_cases hd : S.down = true
  · rw [if_pos hd] at h; omega
  · rw [if_neg hd] at h ⊢
    rw [if_neg (by omega)]
    refine ⟨rfl, ?_⟩
    have ha : ¬ S.armed = 1 := fun e => by unfold strikeI at h; rw [if_pos e] at h; omega
    have hd2 : S.down = false := by simpa using hd
    show (strikeS S).down = false
    unfold strikeS
    rw [if_neg ha]
    split <;> exact hd2

set_option maxRecDepth 100000 in
set_option maxHeartbeats 4000000 in
theorem diskFast_gen [Spare] (A1 A2 : Option Addr) (n1 c1 n2 c2 : Nat) (X1 X2 : Nat → ActD) (a : Nat) (fA : Option Addr) (fL fC : Nat) (fa : Nat → Int) (w : World) (h1 : Acts w A1 n1 X1) (h2 : Acts w A2 n2 X2) (ha : a < 256) (hf : Ints w fA fL fa) (hE : ∀ g, w.heap.size ≤ g → Spare.ok g) :
    Calls Try.prog 4 #[.agg #[.slice A1 n1 c1, .slice A2 n2 c2, .int .u8 a, .slice fA fL fC]] w fun e w' => e = .returned (.bool true) ∧ Below w.heap.size w w' := by
  have H1 := Lib.hid h1
  have H2 := Lib.hid h2
  have HF := Lib.hid hf
  have hn1 := h1.1
  have hn2 := h2.1
  have hfl := hf.1
  clear h1 h2 hf
  go_enter Try.func4, Try.ntmps4
  go_wp2_with fail
  go_quiet (fail)
  have L0 := Lib.hid (below_drewN ((Below.refl w.heap.size w).alloc (Nat.le_refl _) (.cells #[.slice A1 n1 c1, .slice A2 n2 c2, .int .u8 a, .slice fA fL fC] 54)) nq)
  generalize World.drewN (w.alloc (.cells #[.slice A1 n1 c1, .slice A2 n2 c2, .int .u8 a, .slice fA fL fC] 54)) nq = W0 at L0 ⊢
  have K1 := Lib.hid (H1.out.below L0.out (Nat.le_refl _))
  have K2 := Lib.hid (H2.out.below L0.out (Nat.le_refl _))
  have KF := Lib.hid (HF.out.below L0.out (Nat.le_refl _))
  have hz := L0.out.size
  clear H1 H2 HF
  go_wp2_with fail
  refine (light_any A1 n1 c1 X1 W0 K1.out).mono ?_
  rintro e w' ⟨rfl, rfl⟩
  obtain ⟨b1, hb1⟩ : ∃ b, b = lightB n1 X1 := ⟨_, rfl⟩
  rw [← hb1]
  have HB1 := Lib.hid hb1
  clear hb1
  rcases b1 with _ | _
  · go_wp2
    go_ret
    exact ⟨rfl, L0.out⟩
  go_wp2_with fail
  refine (light_any A2 n2 c2 X2 W0 K2.out).mono ?_
  rintro e w' ⟨rfl, rfl⟩
  obtain ⟨b2, hb2⟩ : ∃ b, b = lightB n2 X2 := ⟨_, rfl⟩
  rw [← hb2]
  have HB2 := Lib.hid hb2
  clear hb2
  rcases b2 with _ | _
  · go_wp2
    go_ret
    exact ⟨rfl, L0.out⟩
  by_cases h60 : 60 < fL
  · go_wp2
    go_ret
    exact ⟨rfl, L0.out⟩
  have g1 : n1 ≤ 40 := by have := HB1.out; unfold lightB at this; exact (of_decide_eq_true this.symm).1
  have g2 : n2 ≤ 40 := by have := HB2.out; unfold lightB at this; exact (of_decide_eq_true this.symm).1
  go_wp2_with fail
  refine (new_ok 6 64 W0 (by omega) (by omega) (fun g hg => hE g (Nat.le_trans hz hg))).mono ?_
  rintro e w1 ⟨M0, rfl, d1, l1⟩
  have O1 := Lib.hid (show On W0 W0.heap.size M0 (newS 6 64) w1 from ⟨d1, l1, Nat.le_refl _⟩)
  have hp0 : ∃ p, p = M0.p := ⟨_, rfl⟩
  clear d1 l1
  go_wp2
  go_loopw [8] (fun i wr => ∃ k : Nat, k ≤ n1 ∧ i = .int .i64 k ∧ ∃ v', On W0 W0.heap.size { M0 with vl := v' } (runS (newS 6 64) X1 k) wr) (fun i _ => n1 - (intOf i).toNat)
  case atStart => exact ⟨0, Nat.zero_le _, rfl, M0.vl, O1.out⟩
  case round =>
    obtain ⟨k, hk, rfl, v', ho⟩ := hrel
    have HO := Lib.hid ho
    clear ho
    by_cases hlt : k < n1
    · obtain ⟨b, o, rfl, hc⟩ := K1.out.2.2 (by omega)
      have hck := (hc k hlt).keep (HO.out.b.block b (hc k hlt).blk)
      have ok := Lib.hid ((K1.out.2.1 k hlt).below HO.out.b (Nat.le_refl _))
      have y0 := hck.c0
      have y1 := hck.c1
      have y2 := hck.c2
      have y3 := hck.c3
      have y4 := hck.c4
      clear hc hck
      go_wp2_with fail
      have hlen := (runS_N (newS 6 64) X1 k).2.2
      have hl0 : (newS 6 64).loose.length = 0 := rfl
      refine (did_any (X1 k) wr W0.heap.size { M0 with vl := v' } (runS (newS 6 64) X1 k) HO.out.d HO.out.le (by omega) ok.out ((K1.out.2.1 k hlt).f.apart (Nat.le_refl _) HO.out.d)).mono ?_
      rintro e w2 ⟨rfl, LF⟩
      obtain ⟨v2, o2⟩ := HO.out.left LF
      have HO2 := Lib.hid (show On W0 W0.heap.size { M0 with vl := v2 } (runS (newS 6 64) X1 (k + 1)) w2 from o2)
      clear o2 LF y0 y1 y2 y3 y4 hlen hl0
      go_wp2
      go_roundw
      case rel => exact ⟨k + 1, by omega, by go_num, v2, HO2.out⟩
      case measure => simp [intOf]; omega
    · obtain rfl : k = n1 := by omega
      obtain ⟨SA, hSA⟩ : ∃ SA, SA = runS (newS 6 64) X1 k := ⟨_, rfl⟩
      have IA := Lib.hid (show NowInv SA from hSA ▸ runS_inv (NowInv.new 6 64) X1 k)
      have NA := Lib.hid (show SA.N = 6 ∧ SA.size = 64 from by rw [hSA]; exact ⟨(runS_N _ _ _).1, (runS_N _ _ _).2.1⟩)
      have HOA := Lib.hid (show On W0 W0.heap.size { M0 with vl := v' } SA wr from hSA ▸ HO.out)
      clear hSA HO hp0
      go_wp2_with fail
      refine (flush_any wr W0.heap.size { M0 with vl := v' } SA HOA.out.d).mono ?_
      rintro e w2 ⟨rfl, LF⟩
      obtain ⟨v2, o2⟩ := HOA.out.left LF
      have HB := Lib.hid o2
      clear o2 LF HOA
      by_cases hfl0 : flushI SA = 0
      · rw [hfl0]
        obtain ⟨e1, e2⟩ := flush_works hfl0
        have HK := Lib.hid (Fast.of_flush IA.out (a % 6))
        have HB2 := Lib.hid (show On W0 W0.heap.size { M0 with vl := v2 } (flushS SA) w2 from e1 ▸ HB.out)
        have ZB := Lib.hid (show (flushS SA).N = 6 ∧ (flushS SA).size = 64 ∧ (flushS SA).loose.length = 0 from ⟨(strikeS_N SA).trans NA.out.1, (strikeS_size SA).trans NA.out.2, rfl⟩)
        obtain ⟨SB, hSB⟩ : ∃ SB, SB = flushS SA := ⟨_, rfl⟩
        rw [← hSB] at HK HB2 ZB e2
        obtain ⟨F, hF⟩ : ∃ F, F = SA.now (a % 6) := ⟨_, rfl⟩
        rw [← hF] at HK
        have E2 := Lib.hid e2
        clear hfl0 e1 e2 HB hSB hF IA NA
        have hmod : (a : Int) % 6 = ((a % 6 : Nat) : Int) := by omega
        obtain ⟨q, hq⟩ : ∃ q, q = a % 6 := ⟨_, rfl⟩
        have hq6 : q < 6 := by omega
        rw [← hq] at HK hmod
        clear hq
        go_wp2_with fail
        refine (readDisk_ok q w2 W0.heap.size { M0 with vl := v2 } SB HB2.out.d (by rw [ZB.out.1]; exact hq6) E2.out).mono ?_
        rintro e w3 ⟨rfl, r3, l3⟩
        have H3 := Lib.hid (HB2.out.below l3)
        have R3 := Lib.hid (show BRow w3 w2.heap.size 64 F by rw [← ZB.out.2.1, ← HK.out.n]; exact r3)
        rw [ZB.out.2.1]
        have b3 : W0.heap.size ≤ w2.heap.size := HB2.out.le
        clear r3 l3 HB2
        go_wp2
        go_loopw [12] (fun i wr => ∃ k : Nat, k ≤ n2 ∧ i = .int .i64 k ∧ ∃ v', On W0 W0.heap.size { M0 with vl := v' } (runF SB X2 q k) wr ∧ BRow wr w2.heap.size 64 F) (fun i _ => n2 - (intOf i).toNat)
        case atStart => exact ⟨0, Nat.zero_le _, rfl, v2, H3.out, R3.out⟩
        case round =>
          obtain ⟨k, hk, rfl, v', ho, hr⟩ := hrel
          have HO := Lib.hid ho
          have HR := Lib.hid hr
          clear ho hr
          by_cases hlt : k < n2
          · obtain ⟨b, o, rfl, hc⟩ := K2.out.2.2 (by omega)
            have hck := (hc k hlt).keep (HO.out.b.block b (hc k hlt).blk)
            have ok := Lib.hid ((K2.out.2.1 k hlt).below HO.out.b (Nat.le_refl _))
            have y0 := hck.c0
            have y1 := hck.c1
            have y2 := hck.c2
            have y3 := hck.c3
            have y4 := hck.c4
            clear hc hck
            by_cases hat : (X2 k).at_ = q
            · have qa : ((X2 k).at_ != (q : Int)) = false := by rw [bne_eq_false_iff_eq]; exact hat
              have HS := Lib.hid (show runF SB X2 q (k + 1) = runF SB X2 q k from if_pos hat)
              clear hat
              go_wp2
              go_roundw
              case rel => exact ⟨k + 1, by omega, by go_num, v', by rw [HS.out]; exact HO.out, HR.out⟩
              case measure => simp [intOf]; omega
            · have qa : ((X2 k).at_ != (q : Int)) = true := by rw [bne_iff_ne]; exact hat
              have HS := Lib.hid (show runF SB X2 q (k + 1) = didS (runF SB X2 q k) (X2 k) from if_neg hat)
              have HL := Lib.hid (show (runF SB X2 q k).loose.length < 1000000 by have := (runF_N SB X2 q k).2.2; have := ZB.out.2.2; omega)
              clear hat
              go_wp2_with fail
              refine (did_any (X2 k) wr W0.heap.size { M0 with vl := v' } (runF SB X2 q k) HO.out.d HO.out.le HL.out ok.out ((K2.out.2.1 k hlt).f.apart (Nat.le_refl _) HO.out.d)).mono ?_
              rintro e w4 ⟨rfl, LF⟩
              obtain ⟨v4, o4⟩ := HO.out.left LF
              have HO4 := Lib.hid (show On W0 W0.heap.size { M0 with vl := v4 } (runF SB X2 q (k + 1)) w4 by rw [HS.out]; exact o4)
              have HR4 := Lib.hid (HR.out.left HO.out.d LF)
              clear o4 LF y0 y1 y2 y3 y4
              go_wp2
              go_roundw
              case rel => exact ⟨k + 1, by omega, by go_num, v4, HO4.out, HR4.out⟩
              case measure => simp [intOf]; omega
          · obtain rfl : k = n2 := by omega
            obtain ⟨SC, hSC⟩ : ∃ SC, SC = runF SB X2 q k := ⟨_, rfl⟩
            have FC := Lib.hid (show Fast q F SC from hSC ▸ runF_fast HK.out X2 k)
            have NC := Lib.hid (show SC.N = 6 ∧ SC.size = 64 from by rw [hSC]; exact ⟨(runF_N _ _ _ _).1.trans ZB.out.1, (runF_N _ _ _ _).2.1.trans ZB.out.2.1⟩)
            have HC := Lib.hid (show On W0 W0.heap.size { M0 with vl := v' } SC wr from hSC ▸ HO.out)
            clear hSC HO
            go_wp2_with fail
            refine (crash_any fA fL fC fa wr W0.heap.size { M0 with vl := v' } SC HC.out.d HC.out.le (KF.out.below HC.out.b (Nat.le_refl _)) (KF.out.apart (Nat.le_refl _) HC.out.d)).mono ?_
            rintro e w5 ⟨rfl, d5, t5, _⟩
            have H5 := Lib.hid (HC.out.to d5 t5)
            have R5 := Lib.hid (HR.out.turns HC.out.d t5)
            have F5 := Lib.hid (FC.out.crash fa fL)
            clear d5 t5 HC HR FC
            go_wp2_with fail
            refine (readDisk_ok q w5 W0.heap.size { M0 with vl := .slice none 0 0 } (crashS SC fa fL) H5.out.d (by show q < SC.N; rw [NC.out.1]; exact hq6) rfl).mono ?_
            rintro e w6 ⟨rfl, r6, l6⟩
            have H6 := Lib.hid (H5.out.b.trans (l6.mono H5.out.le))
            have R6 := Lib.hid (R5.out.below l6 R5.out.lt)
            have hs6 : (crashS SC fa fL).size = 64 := NC.out.2
            rw [hs6, F5.out.n] at r6
            rw [hs6]
            have P6 := Lib.hid r6
            clear r6 l6 H5 R5 F5 hs6
            have cv1 := keep_conv R6.out (Below.refl _ _)
            have cv2 := keep_conv P6.out (Below.refl _ _)
            go_wp2_with fail
            refine (awake_any w6).mono ?_
            rintro e w7 ⟨rfl, l7⟩
            have LL := Lib.hid (L0.out.trans ((H6.out.trans (l7.mono H6.out.size)).mono L0.out.size))
            clear l7
            go_wp2
            go_ret
            exact ⟨rfl, LL.out⟩
      · have q : (flushI SA != 0) = true := by rw [bne_iff_ne]; exact hfl0
        have dn : (flushD SA).down = true := flush_fails hfl0
        clear hfl0
        go_wp2_with fail
        refine (down_any w2 W0.heap.size { M0 with vl := v2 } _ HB.out.d).mono ?_
        rintro e w3 ⟨rfl, rfl⟩
        rw [dn]
        go_wp2_with fail
        refine (awake_any w2).mono ?_
        rintro e w3 ⟨rfl, l3⟩
        have LL := Lib.hid (L0.out.trans ((HB.out.b.trans (l3.mono HB.out.le)).mono L0.out.size))
        clear l3
        go_wp2
        go_ret
        exact ⟨rfl, LL.out⟩
theorem diskFast_walk (A1 A2 : Option Addr) (n1 c1 n2 c2 : Nat) (X1 X2 : Nat → ActD) (a : Nat) (fA : Option Addr) (fL fC : Nat) (fa : Nat → Int) (w : World) (h1 : Acts w A1 n1 X1) (h2 : Acts w A2 n2 X2) (ha : a < 256) (hf : Ints w fA fL fa) :
    Calls Try.prog 4 #[.agg #[.slice A1 n1 c1, .slice A2 n2 c2, .int .u8 a, .slice fA fL fC]] w fun e w' => e = .returned (.bool true) ∧ Below w.heap.size w w' :=
  @diskFast_gen ⟨fun _ => True⟩ A1 A2 n1 c1 n2 c2 X1 X2 a fA fL fC fa w h1 h2 ha hf fun _ _ => trivial
end Go.Proofs.Ytpajedofffnhdaa
