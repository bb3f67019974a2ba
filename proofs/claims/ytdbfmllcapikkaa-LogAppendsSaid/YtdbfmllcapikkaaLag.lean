/- Merged texts: LApp. -/
import Derived.Test.YtdbfmllcapikkaaLaf
/- LogAppends: the walk of its law. -/
namespace Go.Proofs.Ytdbfmllcapikkaa
open Go.RowKit
set_option linter.unusedVariables false
set_option linter.unusedSimpArgs false

def RwBox (W : World) (B : Nat) (v0 v1 v2 v3 v4 : Value) : Prop := W.cell? ⟨B, 0, none⟩ = some v0 ∧ W.cell? ⟨B, 1, none⟩ = some v1 ∧ W.cell? ⟨B, 2, none⟩ = some v2 ∧ W.cell? ⟨B, 3, none⟩ = some v3 ∧ W.cell? ⟨B, 4, none⟩ = some v4
theorem RwBox.kept {W W' : World} {B n : Nat} {v0 v1 v2 v3 v4 : Value} (h : RwBox W B v0 v1 v2 v3 v4) (hB : B < n) (l : Below n W W') : RwBox W' B v0 v1 v2 v3 v4 :=
  ⟨kept_l l hB h.1, kept_l l hB h.2.1, kept_l l hB h.2.2.1, kept_l l hB h.2.2.2.1, kept_l l hB h.2.2.2.2⟩
set_option maxRecDepth 100000 in
set_option maxHeartbeats 16000000 in
theorem logAppends_gen [Spare] (more f cn ep : Int) (A : Option Addr) (n c : Nat) (G : Nat → SlD) (Q : Nat → Nat → PutD) (w : World) (hmo : 0 ≤ more ∧ more < 256) (hf : -9223372036854775808 ≤ f ∧ f ≤ 9223372036854775807) (hcn : -9223372036854775808 ≤ cn ∧ cn ≤ 9223372036854775807) (hep : -9223372036854775808 ≤ ep ∧ ep ≤ 9223372036854775807) (hG : PutsG w A n G Q) (hE : ∀ g, w.heap.size ≤ g → Spare.ok g) :
    Calls Try.prog 3 #[.agg #[.int .u8 more, .int .i64 f, .int .i64 cn, .int .i64 ep, .slice A n c]] w fun e w' => e = .returned (.bool true) ∧ Below w.heap.size w w' := by
  have hn := hG.1.1
  obtain ⟨W0, hW0⟩ : ∃ W0 : World, W0 = w.alloc (.cells #[.int .u8 more, .int .i64 f, .int .i64 cn, .int .i64 ep, .slice A n c] 24) := ⟨_, rfl⟩
  have l00 : Below w.heap.size w W0 := by rw [hW0]; exact (Below.refl _ _).alloc (Nat.le_refl _) _
  have hs00 : W0.heap.size = w.heap.size + 1 := by rw [hW0]; simp
  have bx0 : RwBox W0 w.heap.size (.int .u8 more) (.int .i64 f) (.int .i64 cn) (.int .i64 ep) (.slice A n c) := by rw [hW0]; exact ⟨by simp, by simp, by simp, by simp, by simp⟩
  have HG := Lib.hid (hG.below l00)
  have L00 := Lib.hid l00
  have BX := Lib.hid (show ∀ W, Below W0.heap.size W0 W → RwBox W w.heap.size (.int .u8 more) (.int .i64 f) (.int .i64 cn) (.int .i64 ep) (.slice A n c) from fun W l => bx0.kept (by omega) l)
  have HW0 := Lib.hid hW0
  have HS00 := Lib.hid hs00
  have KL := Lib.hid (light_any more f cn ep A n c G W0 (hG.below l00).1)
  obtain ⟨b0, b1, b2, b3, b4⟩ := bx0
  clear hG hW0 l00 hs00
  obtain ⟨mo, rfl⟩ := Int.eq_ofNat_of_zero_le hmo.1
  obtain ⟨sz, hsz⟩ : ∃ s, s = 64 + mo % 64 := ⟨_, rfl⟩
  have hsz1 : 64 ≤ sz := by omega
  have hsz2 : sz ≤ 127 := by omega
  have hmod : (mo : Int).tmod 64 = ((mo % 64 : Nat) : Int) := by rw [Int.tmod_eq_emod_of_nonneg (by omega)]; omega
  have hadd : (64 : Int) + ((mo % 64 : Nat) : Int) = (sz : Int) := by omega
  by_cases hl : lightGB n G = true
  case neg =>
    have hl2 : lightGB n G = false := by simpa using hl
    rw [hl2] at KL
    go_enter Try.func3, Try.ntmps3
    go_upto_region 1 with (fail)
    rw [← HW0.out]
    go_wp2_with (go_at_call 9; refine KL.out.mono ?_; rintro e w1 ⟨rfl, l1⟩)
    go_ret
    exact ⟨rfl, L00.out.trans (l1.mono L00.out.size)⟩
  rw [hl] at KL
  have HL := Lib.hid (of_decide_eq_true hl)
  clear hl
  go_enter Try.func3, Try.ntmps3
  go_upto_region 1 with (fail)
  rw [← HW0.out]
  go_wp2_with fail
  refine KL.out.mono ?_
  rintro e w1 ⟨rfl, l1⟩
  have L1' := Lib.hid l1
  have L1 := Lib.hid (L00.out.trans (l1.mono L00.out.size))
  have hb0 : w.heap.size < w1.heap.size := by have := l1.size; have := HS00.out; omega
  have bx1 := BX.out _ l1
  have HGw := Lib.hid (HG.out.below l1)
  have BW := Lib.hid (show ∀ W, Below w1.heap.size w1 W → RwBox W w.heap.size (.int .u8 (mo : Nat)) (.int .i64 f) (.int .i64 cn) (.int .i64 ep) (.slice A n c) from fun W l => bx1.kept hb0 l)
  clear b0 b1 b2 b3 b4 l1
  obtain ⟨b0, b1, b2, b3, b4⟩ := bx1
  go_wp2_with fail
  have esz : (64 : Int) + (mo : Int) % 64 = (sz : Int) := by omega
  rw [esz]
  clear esz hsz hmod hadd
  refine (new_ok 12 sz w1 (by omega) (by omega) (fun g hg => hE g (Nat.le_trans L1.out.size hg))).mono ?_
  rintro e w2 ⟨M0, rfl, d2, l2⟩
  have O2 := Lib.hid (show On w1 w1.heap.size M0 (newS 12 sz) w2 from ⟨d2, l2, Nat.le_refl _⟩)
  clear b0 b1 b2 b3 b4 d2 l2
  obtain ⟨b0, b1, b2, b3, b4⟩ := BW.out _ O2.out.b
  have KR := Lib.hid (fun W => lright_any (mo : Nat) f cn ep A n c W)
  obtain ⟨R, hR⟩ : ∃ R, R = lrightB f cn ep := ⟨_, rfl⟩
  rw [← hR] at KR
  cases R
  case false =>
    have hno : ¬ (plB (newS 12 sz).N f cn ∧ 1 ≤ ep ∧ ep ≤ 1099511627776) := fun q => by
      have h := of_decide_eq_false hR.symm
      obtain ⟨⟨q1, q2, q3, q4⟩, q5, q6⟩ := q
      have q4' : cn ≤ 12 - f := q4
      exact h ⟨q1, q2, by omega, by omega, by omega, q5, q6⟩
    have HNo := Lib.hid hno
    clear hR hno
    go_wp2_with fail
    refine (start_any f cn ep w2 w1.heap.size M0 (newS 12 sz) O2.out.d hf.1 hf.2 hcn.2).mono ?_
    rintro e w3 ⟨⟨y1, y2, _⟩ | ⟨_, rfl⟩, l3⟩
    · exact absurd ⟨y1, y2⟩ HNo.out
    have O3 := Lib.hid (O2.out.below l3)
    clear b0 b1 b2 b3 b4 l3
    obtain ⟨b0, b1, b2, b3, b4⟩ := BW.out _ O3.out.b
    go_wp2_with fail
    refine (KR.out w3).mono ?_
    rintro e w4 ⟨rfl, l4⟩
    have O4 := Lib.hid (O3.out.below l4)
    clear b0 b1 b2 b3 b4 l4
    obtain ⟨b0, b1, b2, b3, b4⟩ := BW.out _ O4.out.b
    go_wp2_with fail
    refine (read_err f cn ep w4 w1.heap.size M0 (newS 12 sz) O4.out.d hf.1 hf.2 hcn.2 (fun q => HNo.out ⟨q.1, of_decide_eq_true q.2⟩)).mono ?_
    rintro e w5 ⟨rfl, l5⟩
    have O5 := Lib.hid (O4.out.below l5)
    clear b0 b1 b2 b3 b4 l5
    go_wp2_with (go_at_call 14; refine (lawake_any _).mono ?_; rintro e w6 ⟨rfl, l6⟩)
    go_ret
    exact ⟨rfl, L1.out.trans ((O5.out.b.trans (l6.mono O5.out.b.size)).mono L1.out.size)⟩
  case true =>
    obtain ⟨h1, h2, h3, h4, h5, h6, h7⟩ := of_decide_eq_true hR.symm
    clear hR
    obtain ⟨f, rfl⟩ := Int.eq_ofNat_of_zero_le h1
    obtain ⟨cn, rfl⟩ := Int.eq_ofNat_of_zero_le (show 0 ≤ cn by omega)
    obtain ⟨ep, rfl⟩ := Int.eq_ofNat_of_zero_le (show 0 ≤ ep by omega)
    clear hf hcn hep h1
    have hfc : f + cn ≤ 12 := by omega
    have hc1 : 1 ≤ cn := by omega
    have he1 : 1 ≤ ep := by omega
    have he2 : ep ≤ 1099511627776 := by omega
    clear h2 h3 h4 h5 h6 h7
    go_wp2_with fail
    refine (lst_start (f := f) (cn := cn) (ep := ep) O2.out (by omega) (by omega) (by omega) (by show f + cn ≤ 12; omega) (by omega) (by omega)).mono ?_
    rintro e w3 ⟨b, rfl, s3, l3, hb3⟩
    have S3 := Lib.hid s3
    clear b0 b1 b2 b3 b4 s3 l3
    obtain ⟨b0, b1, b2, b3, b4⟩ := BW.out _ S3.out.from0
    go_wp2_with fail
    refine (KR.out w3).mono ?_
    rintro e w4 ⟨rfl, l4⟩
    have S4 := Lib.hid (S3.out.below l4)
    clear b0 b1 b2 b3 b4 l4
    go_wp2_with fail
    refine (lrefRoom_any (sz : Nat) w4 (by omega) (by omega)).mono ?_
    rintro e w' ⟨rfl, rfl⟩
    obtain ⟨rm, hrm⟩ : ∃ r, r = sz - 45 := ⟨_, rfl⟩
    have erm : (sz : Int) - 45 = (rm : Int) := by omega
    rw [erm]
    clear erm
    have hrm2 : rm ≤ 100 := by omega
    have HRm := Lib.hid hrm
    clear hrm
    obtain ⟨i1, hi1, hy0, hy1, hy2⟩ := infoPartsR infoDcs
    have HIn := Lib.hid (And.intro hi1 (And.intro hy0 (And.intro hy1 hy2)))
    clear hi1 hy0 hy1 hy2
    obtain ⟨i2, hi2, ha0, ha1, ha2⟩ := infoPartsR infoDc
    have HI2 := Lib.hid (And.intro hi2 (And.intro ha0 (And.intro ha1 ha2)))
    clear hi2 ha0 ha1 ha2
    have HB0 := Lib.hid (ApB.first (ep := ep) (sz := sz) (by omega) (by omega) hfc)
    go_wp2
    go_loopw [10, 11, 12] (fun u nx i wr => ∃ (k : Nat) (L : LS) (gs : List (List Dc)), k ≤ n ∧ nx = .int .i64 (L.nx : Nat) ∧ i = .int .i64 (k : Nat) ∧ ApB f cn ep sz L gs ∧ gs.length ≤ k ∧ GB w1.heap.size gs [] u (.slice none 0 0) wr ∧ LSt w1 w1.heap.size b f cn ep M0 L wr) (fun u nx i _ => n - (intOf i).toNat)
    case atStart => exact ⟨0, _, [], Nat.zero_le _, rfl, rfl, HB0.out, Nat.le_refl _, GB.nil _ _, S4.out⟩
    case round =>
      obtain ⟨k, L, gs, hk, rfl, rfl, hok, hgl, hgb, hst⟩ := hrel
      obtain ⟨wi, hwi⟩ : ∃ wi, wi = wr := ⟨_, rfl⟩
      subst hwi
      have HOk := Lib.hid hok
      have HS := Lib.hid hst
      have HGb := Lib.hid hgb
      obtain ⟨nx, hnx⟩ : ∃ m, m = L.nx := ⟨_, rfl⟩
      have hnx2 : nx ≤ cn := by rw [hnx]; exact hok.al.nx
      have HNx := Lib.hid hnx
      rw [← hnx]
      obtain ⟨b0, b1, b2, b3, b4⟩ := BW.out _ hst.from0
      clear hok hst hgb hnx
      by_cases hlt : k < n
      · have HG1 := Lib.hid (HGw.out.below HS.out.from0)
        obtain ⟨bb, o, rfl, hc⟩ := HG1.out.1.2.2 (by omega)
        have ck := hc k hlt
        have hgn := HL.out.2 k hlt
        have hP := HG1.out.2 k hlt
        rcases hGk : G k with ⟨Ak, nk, dk⟩
        rw [hGk] at ck hgn hP
        dsimp only at ck hgn hP
        have HPk := Lib.hid hP
        clear hc hGk hP
        obtain ⟨P, hP⟩ : ∃ P, P = Q k := ⟨_, rfl⟩
        rw [← hP] at HPk
        clear hP
        obtain ⟨r, hr⟩ : ∃ r, r = (appT f cn ep L nk P).1 := ⟨_, rfl⟩
        obtain ⟨L', hL'⟩ : ∃ L', L' = (appT f cn ep L nk P).2 := ⟨_, rfl⟩
        have HN0 := HOk.out.step (n := nk) (P := P) he1 he2 (by omega) HPk.out.2.1
        obtain ⟨R, hR⟩ : ∃ R, R = appR cn L nk P := ⟨_, rfl⟩
        have HRf := Lib.hid (show 1 ≤ nk → R = if wrong3 (wrong1 nk P nk) rm P nk ≠ 0 then wrong3 (wrong1 nk P nk) rm P nk else if (cn : Int) - nx < nk then 6 else 0 from fun q => by rw [hR, HRm.out]; exact wrong_refuse HOk.out.al.dd HOk.out.size (by omega) HNx.out.symm q)
        have HRn := Lib.hid (show nk = 0 → R = 1 from fun q => by rw [hR, q]; exact wrong_none HOk.out.al.dd)
        have HN := Lib.hid (show (R ≠ 0 ∧ r = R ∧ L' = L) ∨ (R = 0 ∧ r = 0 ∧ ApB f cn ep sz L' (gs ++ [gD rm nk P]) ∧ L'.nx = nx + nk ∧ L'.dead = false ∧
            (∀ j, j < nk → L'.S.now (f + nx + j) = secF (sz - 20) (mkN ep (nx + j)) (9 + rm) (loadF (P j).page.toNat (decide (j + 1 = nk)) (fun _ => (P j).b))) ∧ 1 ≤ nk ∧ (∀ i, i < nk → 0 ≤ (P i).page ∧ (P i).page ≤ 2147483647) ∧ (∀ i, i < nk → putN rm (P i) = rm)) from by
          rcases HN0 with ⟨e0, e⟩ | ⟨e0, e1, e2, e3, e4, e5, e6, e7, e8⟩
          · exact .inl ⟨by rw [hR]; exact e0, by rw [hr, e, hR], by rw [hL', e]⟩
          · rw [HRm.out, hR, hr, hL', HNx.out]
            exact .inr ⟨e0, e1, e2, e3, e4, e5, e6, e7, e8⟩)
        have KA := Lib.hid (show ∀ (w2 : World) (v : Value), Below wi.heap.size wi w2 → GrpR wi.heap.size w2 rm P nk v → Calls Try.prog 17 #[.pointer (some ⟨b, 0, none⟩), v] w2 fun e w' => e = .returned (.int .i64 r) ∧ LSt w1 w1.heap.size b f cn ep M0 L' w' ∧ KeepT b w2 w' from hr ▸ hL' ▸ fun w2 v l hg => app_step (n := nk) (P := P) HS.out (by omega) (by rw [HOk.out.al.lo]; show 0 + nk < 1000000; omega) (by omega) (by omega) HOk.out.al.nx he1 he2 l (by rw [HOk.out.size, ← HRm.out]; exact hg))
        have KG := Lib.hid (group_any Ak nk dk P rm wi (by omega) (by omega) HPk.out)
        clear hr hL' HN0 hR
        go_wp2_with (first
          | (go_at_call 16; refine KG.out.mono ?_; rintro e W5 ⟨⟨v5, rfl, g5⟩, l5⟩; obtain ⟨A17, c17, rfl⟩ := g5.len; have L5' := Lib.hid l5; have G5 := Lib.hid g5; clear l5 g5)
          | (go_at_call 17; refine (KA.out _ _ L5'.out G5.out).mono ?_; rintro e W6 ⟨rfl, s6, k6⟩; have S6' := Lib.hid s6; have K6 := Lib.hid k6; clear s6 k6))
        have HK6 := Lib.hid (K6.out.y (HS.out.below L5'.out).blk)
        have GB6 := Lib.hid ((HGb.out.below L5'.out).keepY HK6.out)
        have GR6 := Lib.hid (G5.out.keepY HK6.out (by decide) (by decide))
        clear b0 b1 b2 b3 b4 ck
        obtain ⟨b0, b1, b2, b3, b4⟩ := BW.out _ S6'.out.from0
        -- the pages
        go_loopw [15, 16] (fun u i W => ∃ j : Nat, j ≤ nk ∧ i = .int .i64 j ∧ u = .int .i64 (wrong1 nk P j) ∧ W = W6) (fun u i _ => nk - (intOf i).toNat)
        case atStart => exact ⟨0, Nat.zero_le _, rfl, rfl, rfl⟩
        case round =>
          obtain ⟨j, hj, rfl, rfl, hw⟩ := hrel
          have hw' := hw.symm
          subst hw'
          obtain ⟨x1, hx1⟩ : ∃ x, x = wrong1 nk P j := ⟨_, rfl⟩
          have HX1 := Lib.hid hx1
          rw [← hx1]
          clear hx1
          by_cases hjl : j < nk
          · obtain ⟨g17, c17', b17, m2, e17, hm2, KC'⟩ := grp_read GR6.out hjl
            injection e17 with e17 e18 e19
            subst e17 e19
            clear e18 hm2
            obtain ⟨s1, _, _⟩ := KC' badR _ KeepY.refl (by decide) (by decide)
            obtain ⟨xp, hxp⟩ : ∃ x, x = (P j).page := ⟨_, rfl⟩
            rw [← hxp] at s1
            have HXp := Lib.hid hxp
            clear KC' hxp
            by_cases q1 : xp < 0
            · go_wp2
              go_roundw
              case rel => exact ⟨j + 1, by omega, by go_num, by unfold wrong1; rw [← HXp.out, if_pos (.inl q1)], trivial⟩
              case measure => simp [intOf]; omega
            · by_cases q2 : 2147483647 < xp
              · go_wp2
                go_roundw
                case rel => exact ⟨j + 1, by omega, by go_num, by unfold wrong1; rw [← HXp.out, if_pos (.inr q2)], trivial⟩
                case measure => simp [intOf]; omega
              · go_wp2
                go_roundw
                case rel => exact ⟨j + 1, by omega, by go_num, by unfold wrong1; rw [← HXp.out, if_neg (by omega), ← HX1.out], trivial⟩
                case measure => simp [intOf]; omega
          · obtain rfl : j = nk := by omega
            go_wp2
            go_loopw [15, 17] (fun u i W => ∃ j' : Nat, j' ≤ j ∧ i = .int .i64 j' ∧ u = .int .i64 (wrong3 x1 rm P j') ∧ W = W6) (fun u i _ => j - (intOf i).toNat)
            case atStart => exact ⟨0, Nat.zero_le _, rfl, rfl, rfl⟩
            case round =>
              obtain ⟨q, hq, rfl, rfl, hw⟩ := hrel
              have hw' := hw.symm
              subst hw'
              obtain ⟨x3, hx3⟩ : ∃ x, x = wrong3 x1 rm P q := ⟨_, rfl⟩
              have HX3 := Lib.hid hx3
              rw [← hx3]
              clear hx3
              by_cases hx0 : x3 = 0
              · have hxb : (x3 == 0) = true := by simpa using hx0
                by_cases hql : q < j
                · obtain ⟨g17, c17', b17, m2, e17, hm2, KC'⟩ := grp_read GR6.out hql
                  injection e17 with e17 e18 e19
                  subst e17 e19
                  clear e18
                  obtain ⟨_, s2, _⟩ := KC' badR _ KeepY.refl (by decide) (by decide)
                  have HM2 := Lib.hid hm2
                  have HX0 := Lib.hid hx0
                  have hm2b : m2 ≤ 9223372036854775807 := by
                    have := putN_le (room := rm) (by omega) (P q)
                    omega
                  clear KC' hm2 hx0
                  by_cases hmm : m2 = rm
                  · have hmb : ((m2 : Int) != (rm : Int)) = false := by simp [hmm]
                    have HMM := Lib.hid hmm
                    clear hmm
                    go_wp2
                    go_roundw
                    case rel => exact ⟨q + 1, by omega, by go_num, by rw [wrong3_succ, if_neg (fun z => z.2 (by rw [← HM2.out]; exact HMM.out)), ← HX3.out], trivial⟩
                    case measure => simp [intOf]; omega
                  · have hmb : ((m2 : Int) != (rm : Int)) = true := by simp; omega
                    have HMM := Lib.hid hmm
                    clear hmm
                    go_wp2
                    go_roundw
                    case rel => exact ⟨q + 1, by omega, by go_num, by rw [wrong3_succ, if_pos ⟨by rw [← HX3.out]; exact HX0.out, by rw [← HM2.out]; exact HMM.out⟩], trivial⟩
                    case measure => simp [intOf]; omega
                · obtain rfl : q = j := by omega
                  have HX0 := Lib.hid hx0
                  clear hx0
                  by_cases hz : q = 0
                  · have hR1 := HRn.out hz
                    obtain ⟨hr0, hL0⟩ : r = R ∧ L' = L := by
                      rcases HN.out with ⟨_, h1, h2⟩ | ⟨h0, _⟩
                      · exact ⟨h1, h2⟩
                      · exact absurd h0 (by rw [hR1]; decide)
                    subst hL0
                    subst hr0
                    subst hR1
                    have hzb : ((q : Int) == 0) = true := by simp [hz]
                    have hone : ((1 : Int) != 1) = false := rfl
                    have HZ := Lib.hid hz
                    clear hz
                    go_wp2
                    go_roundw
                    case rel => exact ⟨k + 1, _, gs, by omega, by rw [HNx.out], by go_num, HOk.out, by omega, GB6.out, S6'.out⟩
                    case measure => simp [intOf]; omega
                  · have hzb : ((q : Int) == 0) = false := by simp; omega
                    have hRR := HRf.out (by omega)
                    rw [← HX1.out, ← HX3.out, if_neg (fun z => z HX0.out)] at hRR
                    by_cases hfull : (cn : Int) - nx < q
                    · rw [if_pos hfull] at hRR
                      obtain ⟨hr0, hL0⟩ : r = R ∧ L' = L := by
                        rcases HN.out with ⟨_, h1, h2⟩ | ⟨h0, _⟩
                        · exact ⟨h1, h2⟩
                        · exact absurd h0 (by rw [hRR]; decide)
                      subst hL0
                      subst hr0
                      subst hRR
                      have hzz := HX0.out
                      go_wp2
                      go_roundw
                      case rel => exact ⟨k + 1, _, gs, by omega, by rw [HNx.out], by go_num, HOk.out, by omega, GB6.out, S6'.out⟩
                      case measure => simp [intOf]; omega
                    · rw [if_neg hfull] at hRR
                      have HOKs := Lib.hid (show r = 0 ∧ ApB f cn ep sz L' (gs ++ [gD rm q P]) ∧ L'.nx = nx + q ∧ L'.dead = false ∧ (∀ j, j < q → L'.S.now (f + nx + j) = secF (sz - 20) (mkN ep (nx + j)) (9 + rm) (loadF (P j).page.toNat (decide (j + 1 = q)) (fun _ => (P j).b))) ∧ 1 ≤ q ∧ (∀ i, i < q → 0 ≤ (P i).page ∧ (P i).page ≤ 2147483647) ∧ (∀ i, i < q → putN rm (P i) = rm) from by
                        rcases HN.out with ⟨h0, _⟩ | ⟨_, h⟩
                        · exact absurd hRR h0
                        · exact h)
                      have hr0 := HOKs.out.1
                      have hzz := HX0.out
                      clear hRR
                      subst hr0
                      go_wp2
                      go_loopw [11, 18, 19] (fun nv u i W => ∃ k3 : Nat, k3 ≤ q ∧ nv = .int .i64 ((nx + k3 : Nat) : Int) ∧ i = .int .i64 k3 ∧ GB w1.heap.size gs ((gD rm q P).take k3) u10 u W ∧ GrpR wi.heap.size W rm P q (.slice A17 q c17) ∧ LSt w1 w1.heap.size b f cn ep M0 L' W) (fun nv u i _ => q - (intOf i).toNat)
                      case atStart => exact ⟨0, Nat.zero_le _, rfl, rfl, GB6.out, GR6.out, S6'.out⟩
                      case round =>
                        obtain ⟨k3, hk3, rfl, rfl, hgb, hgr, hst⟩ := hrel
                        obtain ⟨wj, hwj⟩ : ∃ wj, wj = wr := ⟨_, rfl⟩
                        subst hwj
                        have HGj := Lib.hid hgb
                        have HRj := Lib.hid hgr
                        have HSj := Lib.hid hst
                        have hsz : w1.heap.size ≤ wj.heap.size := hst.from0.size
                        clear b0 b1 b2 b3 b4
                        obtain ⟨b0, b1, b2, b3, b4⟩ := BW.out _ hst.from0
                        clear hgb hgr hst
                        have hlen : ((gD rm q P).take k3).length = k3 := take_len' (by rw [gD_len]; omega)
                        by_cases hjl : k3 < q
                        · obtain ⟨g17, c17', b17, m2, e17, hm2, KC'⟩ := grp_read HRj.out hjl
                          injection e17 with e17 e18 e19
                          subst e17 e19
                          clear e18 hm2
                          obtain ⟨pg, hpg⟩ : ∃ x : Nat, x = (P k3).page.toNat := ⟨_, rfl⟩
                          have hpr := HOKs.out.2.2.2.2.2.2.1 k3 hjl
                          have hpe : (P k3).page = (pg : Int) := by omega
                          have hpl : pg ≤ 2147483647 := by omega
                          obtain ⟨xs, hxs⟩ : ∃ s, s = (putDc rm P k3).2 := ⟨_, rfl⟩
                          have HX := Lib.hid (show (gD rm q P)[k3]? = some ((pg : Int), xs) by rw [gD_at hjl, ← hpe, hxs]; rfl)
                          have HXs := Lib.hid (show xs = strF (fun _ => (P k3).b) rm by rw [hxs]; unfold putDc; rw [HOKs.out.2.2.2.2.2.2.2 k3 hjl])
                          have HPg := Lib.hid hpg
                          rw [hpe, ← hxs] at KC'
                          have KC := Lib.hid (show ∀ W, KeepY badR wj W → W.cell? ⟨g17, k3 * 2, none⟩ = some (.int .i64 (pg : Nat)) ∧ W.cell? ⟨g17, k3 * 2 + 1, none⟩ = some (.slice (some ⟨b17, 0, none⟩) m2 m2) ∧ (convert 42 9 (.slice (some ⟨b17, 0, none⟩) m2 m2)).run Try.prog W = .ok (.string xs) W from fun W k => KC' badR W k (by decide) (by decide))
                          clear hpg hpr hpe hxs KC'
                          obtain ⟨s1, s2, s3⟩ := KC.out _ KeepY.refl
                          go_wp2
                          go_region_held_law (fun W => W.cell? ⟨g17, k3 * 2, none⟩ = some (.int .i64 (pg : Nat)) ∧ W.cell? ⟨g17, k3 * 2 + 1, none⟩ = some (.slice (some ⟨b17, 0, none⟩) m2 m2) ∧ (convert 42 9 (.slice (some ⟨b17, 0, none⟩) m2 m2)).run Try.prog W = .ok (.string xs) W)
                            (first | exact KC.out _ (KeepY.below (((Below.refl _ _).drew).alloc (Nat.le_refl _) _)) | exact KC.out _ (KeepY.below (Below.refl _ _).drew) | exact KC.out _ (KeepY.below (((((Below.refl _ _).drew).alloc (Nat.le_refl _) _).setCell (Nat.le_refl _) _).setCell (Nat.le_refl _) _)))
                            (fail)
                          obtain ⟨W1, hW1⟩ : ∃ W1 : World, W1 = (wj.alloc (.cells #[.int .i64 (pg : Nat), .string xs] 47)).drew := ⟨_, rfl⟩
                          have l1 : Below wj.heap.size wj W1 := by rw [hW1]; exact ((Below.refl _ _).alloc (Nat.le_refl _) _).drew
                          have e0 : W1.cell? ⟨wj.heap.size, 0, none⟩ = some (.int .i64 (pg : Nat)) := by rw [hW1]; simp
                          have e1 : W1.cell? ⟨wj.heap.size, 1, none⟩ = some (.string xs) := by rw [hW1]; simp
                          have hz1 : W1.heap.size = wj.heap.size + 1 := by rw [hW1]; simp
                          rw [← hW1]
                          have hown := HGj.out.own.2
                          rw [hlen] at hown
                          obtain ⟨A18, c18, rfl⟩ := own_sl hown
                          have HOj := Lib.hid hown
                          have HO1 := Lib.hid (own_belowR hown l1)
                          have L1j := Lib.hid l1
                          have l3 : Below W1.heap.size W1 (W1.alloc (.cells #[.int .i64 (pg : Nat), .string xs] 47)) := (Below.refl _ _).alloc (Nat.le_refl _) _
                          have HO3 := Lib.hid (own_belowR HO1.out l3)
                          have HB3 := Lib.hid ((HGj.out.below l1).below l3)
                          have HS3 := Lib.hid ((HSj.out.below l1).below l3)
                          have HR3 := Lib.hid (HRj.out.keepY (bad := badR) ((KeepY.below l1).trans (KeepY.below l3)) (by decide) (by decide))
                          have E3 := Lib.hid (And.intro (kept_l l3 (cell_lt' e0) e0) (kept_l l3 (cell_lt' e1) e1))
                          have HLen := Lib.hid hlen
                          have HZ1 := Lib.hid hz1
                          have hj1 : w1.heap.size ≤ W1.heap.size := by omega
                          have KRd := Lib.hid (show ∀ W, LSt w1 w1.heap.size b f cn ep M0 L' W → Calls Try.prog 18 #[.pointer (some ⟨M0.p, 0, none⟩), .int .i64 ((f : Int) + ((nx : Int) + (k3 : Int)))] W fun e w' => e = .returned (.tuple #[.slice (some ⟨W.heap.size, 0, none⟩) sz sz, .int .i64 0]) ∧ BRow w' W.heap.size sz (secF (sz - 20) (mkN ep (nx + k3)) (9 + rm) (loadF pg (decide (k3 + 1 = q)) (fun _ => (P k3).b))) ∧ Below W.heap.size W w' from fun W hs => by
                            obtain ⟨v, hO⟩ := hs.1
                            have h := readDisk_ok (f + (nx + k3)) W w1.heap.size { M0 with vl := v } L'.S hO.d (by rw [HOKs.out.2.1.N]; omega) HOKs.out.2.1.up.d
                            rw [HOKs.out.2.1.size, ← Nat.add_assoc, HOKs.out.2.2.2.2.1 k3 hjl, ← HPg.out] at h
                            rw [show (f : Int) + ((nx : Int) + (k3 : Int)) = ((f + nx + k3 : Nat) : Int) by omega]
                            exact h)
                          clear hown hlen l1 l3 hW1 s1 s2 s3 hz1
                          go_wp2_with (first
                            | (at_builtin; refine wpList_append_own_at _ rfl _ _ 45 rfl w1.heap.size 47 i2 (.agg #[.int .i64 0, .string ByteArray.empty]) 2 24 Try.underlying45 HI2.out.1 HI2.out.2.1 HI2.out.2.2.1 HI2.out.2.2.2 rfl (by decide) _ _ _ rfl HO3.out ⟨W1.heap.size, 0, none⟩ 1 1 [.int .i64 (pg : Nat), .string xs] rfl rfl (cells_newR2 _ _ _ _) (by simp [Value.oneCell']) (by unfold maxLen; omega) (by omega) (by simp; omega) ?_; intro v2 w9 hown hgr _ hat; have HS9 := Lib.hid (HS3.out.grown HO3.out (Nat.le_refl _) (by decide) (by decide) hgr); obtain ⟨x0, x1', x2, x3', x4⟩ := BW.out _ HS9.out.from0; have hb9 := hgr.block wj.heap.size (by have := HZ1.out; simp; omega) (fun e => by have := (HOj.out.lt _ e.symm).2; omega); have E9 := Lib.hid (And.intro ((World.cell?_of_block (w := W1.alloc (.cells #[.int .i64 (pg : Nat), .string xs] 47)) (a := ⟨wj.heap.size, 0, none⟩) hb9).trans E3.out.1) ((World.cell?_of_block (w := W1.alloc (.cells #[.int .i64 (pg : Nat), .string xs] 47)) (a := ⟨wj.heap.size, 1, none⟩) hb9).trans E3.out.2)); clear hb9 e0 e1; have HQ := Lib.hid (And.intro hown (And.intro hgr hat)); clear hown hgr hat)
                            | (go_at_call 18; refine (KRd.out _ HS9.out).mono ?_; rintro e w10 ⟨rfl, r10, l10⟩; have R10 := Lib.hid r10; have L10 := Lib.hid l10; clear r10 l10))
                          have HS10 := Lib.hid (HS9.out.below L10.out)
                          clear b0 b1 b2 b3 b4 x0 x1' x2 x3' x4
                          have bx10 := BW.out _ HS10.out.from0
                          obtain ⟨lb, hlb⟩ : ∃ l, l = decide (k3 + 1 = q) := ⟨_, rfl⟩
                          have hlast : ((k3 : Int) == (q : Int) - 1) = lb := by
                            rw [hlb]
                            rcases Nat.lt_or_ge (k3 + 1) q with z | z
                            · rw [decide_eq_false (by omega)]; simp; omega
                            · rw [decide_eq_true (by omega)]; simp; omega
                          have hsub : IntKind.i64.wrap ((q : Int) - 1) = (q : Int) - 1 := by rw [IntKind.wrap_i64]; omega
                          obtain ⟨SB, hSB⟩ : ∃ s, s = strF (secF (sz - 20) (mkN ep (nx + k3)) (9 + rm) (loadF pg (decide (k3 + 1 = q)) (fun _ => (P k3).b))) sz := ⟨_, rfl⟩
                          have KE := Lib.hid (show ∀ W, Below w10.heap.size w10 W → W.cell? ⟨w.heap.size, 3, none⟩ = some (.int .i64 (ep : Nat)) ∧ W.cell? ⟨wj.heap.size, 0, none⟩ = some (.int .i64 (pg : Nat)) ∧ W.cell? ⟨wj.heap.size, 1, none⟩ = some (.string xs) ∧ (convert 42 9 (.slice (some ⟨w9.heap.size, 0, none⟩) sz sz)).run Try.prog W = .ok (.string SB) W from fun W l =>
                            ⟨kept_l l (cell_lt' bx10.2.2.2.1) bx10.2.2.2.1, kept_l l (cell_lt' (kept_l L10.out (cell_lt' E9.out.1) E9.out.1)) (kept_l L10.out (cell_lt' E9.out.1) E9.out.1), kept_l l (cell_lt' (kept_l L10.out (cell_lt' E9.out.2) E9.out.2)) (kept_l L10.out (cell_lt' E9.out.2) E9.out.2), by
                              rw [hSB]
                              exact conv_any sz ((((R10.out.below l R10.out.lt).bytes (o := 0) (m := sz) (by omega)).congr fun i _ => by rw [Nat.zero_add]))⟩)
                          have KSec := Lib.hid (show ∀ W, Calls Try.prog 19 #[.int .i64 (sz : Nat), .int .i64 (ep : Nat), .int .i64 ((nx : Int) + (k3 : Int)), .agg #[.int .i64 (pg : Nat), .string xs], .bool lb] W fun e w' => ∃ B d, e = .returned (.slice B sz d) ∧ (convert 42 9 (.slice B sz d)).run Try.prog w' = .ok (.string SB) w' ∧ Below W.heap.size W w' from fun W => by
                            rw [show (nx : Int) + (k3 : Int) = ((nx + k3 : Nat) : Int) by omega, HXs.out, hlb]
                            refine (refSector_any sz ep (nx + k3) pg rm (decide (k3 + 1 = q)) (fun _ => (P k3).b) W (by omega) (by omega) he1 he2 (by omega) hpl (by have := HRm.out; omega) (fun _ _ => HPk.out.2.1 k3 (by omega))).mono ?_
                            rintro e w' ⟨B, d, rfl, ho, hl⟩
                            exact ⟨B, d, rfl, by rw [hSB]; exact conv_any d ho.bytes, hl⟩)
                          clear hlb hSB bx10
                          obtain ⟨s1, s2, s3, s4⟩ := KE.out _ (Below.refl _ _)
                          refine wp_region_held_drew (S := fun W => W.cell? ⟨w.heap.size, 3, none⟩ = some (.int .i64 (ep : Nat)) ∧ W.cell? ⟨wj.heap.size, 0, none⟩ = some (.int .i64 (pg : Nat)) ∧ W.cell? ⟨wj.heap.size, 1, none⟩ = some (.string xs) ∧ (convert 42 9 (.slice (some ⟨w9.heap.size, 0, none⟩) sz sz)).run Try.prog W = .ok (.string SB) W) (by kernel_rfl) (KE.out _ (Below.refl _ _).drew) (fun hHeld => ?_)
                          simp only [List.append, List.size_toArray, List.length_cons, List.length_nil, Nat.reduceAdd, Array.replicate_succ, Array.replicate_zero]
                          refine wpAnyH_take (i := 0) (oi := { dst := some 188, op := Op.move (Operand.tmp 22), type := 29, pos := "law.go:135", after := #[], guard := none }) (v := ?_) rfl (by kernel_rfl) (by kernel_rfl) (by kernel_rfl) (fun _ _ _ h => h) (Or.inl ⟨by kernel_rfl, ?_⟩) hHeld ?_
                          rotate_left 1
                          · (intro w0 hSw; obtain ⟨s1, s2, s3, s4⟩ := hSw; go_simp; (try with_reducible rfl))
                          simp only [Act.put, List.setIfInBounds_toArray, List.set_cons_zero, List.set_cons_succ]
                          refine wpAnyH_take (i := 1) (oi := { dst := some 189, op := Op.binOp BinOp.neq 29 (Operand.tmp 188) (Operand.const (Value.int IntKind.i64 0)) 29, type := 4, pos := "law.go:135", after := #[{ on := 0, ground := Ground.data }], guard := none }) (v := ?_) rfl (by kernel_rfl) (by kernel_rfl) (by kernel_rfl) (fun _ _ _ h => h) (Or.inl ⟨by kernel_rfl, ?_⟩) hHeld ?_
                          rotate_left 1
                          · (intro w0 hSw; obtain ⟨s1, s2, s3, s4⟩ := hSw; go_simp; (try with_reducible rfl))
                          simp only [Act.put, List.setIfInBounds_toArray, List.set_cons_zero, List.set_cons_succ]
                          refine wpAnyH_take (i := 2) (oi := { dst := some 190, op := Op.move (Operand.tmp 189), type := 4, pos := "law.go:135", after := #[{ on := 1, ground := Ground.data }], guard := none }) (v := ?_) rfl (by kernel_rfl) (by kernel_rfl) (by kernel_rfl) (fun _ _ _ h => h) (Or.inl ⟨by kernel_rfl, ?_⟩) hHeld ?_
                          rotate_left 1
                          · (intro w0 hSw; obtain ⟨s1, s2, s3, s4⟩ := hSw; go_simp; (try with_reducible rfl))
                          simp only [Act.put, List.setIfInBounds_toArray, List.set_cons_zero, List.set_cons_succ]
                          refine wpAnyH_take (i := 3) (oi := { dst := some 191, op := Op.move (Operand.tmp 21), type := 42, pos := "law.go:135", after := #[{ on := 2, ground := Ground.guard }], guard := some (2, false) }) (v := ?_) rfl (by kernel_rfl) (by kernel_rfl) (by kernel_rfl) (fun _ _ _ h => h) (Or.inl ⟨by kernel_rfl, ?_⟩) hHeld ?_
                          rotate_left 1
                          · (intro w0 hSw; obtain ⟨s1, s2, s3, s4⟩ := hSw; go_simp; (try with_reducible rfl))
                          simp only [Act.put, List.setIfInBounds_toArray, List.set_cons_zero, List.set_cons_succ]
                          refine wpAnyH_take (i := 5) (oi := { dst := some 193, op := Op.move (Operand.tmp 3), type := 3, pos := "law.go:135", after := #[{ on := 2, ground := Ground.guard }], guard := some (2, false) }) (v := ?_) rfl (by kernel_rfl) (by kernel_rfl) (by kernel_rfl) (fun _ _ _ h => h) (Or.inl ⟨by kernel_rfl, ?_⟩) hHeld ?_
                          rotate_left 1
                          · (intro w0 hSw; obtain ⟨s1, s2, s3, s4⟩ := hSw; go_simp; (try with_reducible rfl))
                          simp only [Act.put, List.setIfInBounds_toArray, List.set_cons_zero, List.set_cons_succ]
                          refine wpAnyH_take (i := 6) (oi := { dst := some 194, op := Op.fieldAddr 24 (Operand.tmp 1) 3, type := 0, pos := "law.go:135", after := #[{ on := 2, ground := Ground.guard }], guard := some (2, false) }) (v := ?_) rfl (by kernel_rfl) (by kernel_rfl) (by kernel_rfl) (fun _ _ _ h => h) (Or.inl ⟨by kernel_rfl, ?_⟩) hHeld ?_
                          rotate_left 1
                          · (intro w0 hSw; obtain ⟨s1, s2, s3, s4⟩ := hSw; go_simp; (try with_reducible rfl))
                          simp only [Act.put, List.setIfInBounds_toArray, List.set_cons_zero, List.set_cons_succ]
                          refine wpAnyH_take (i := 8) (oi := { dst := some 196, op := Op.move (Operand.tmp 11), type := 3, pos := "law.go:135", after := #[{ on := 2, ground := Ground.guard }], guard := some (2, false) }) (v := ?_) rfl (by kernel_rfl) (by kernel_rfl) (by kernel_rfl) (fun _ _ _ h => h) (Or.inl ⟨by kernel_rfl, ?_⟩) hHeld ?_
                          rotate_left 1
                          · (intro w0 hSw; obtain ⟨s1, s2, s3, s4⟩ := hSw; go_simp; (try with_reducible rfl))
                          simp only [Act.put, List.setIfInBounds_toArray, List.set_cons_zero, List.set_cons_succ]
                          refine wpAnyH_take (i := 9) (oi := { dst := some 197, op := Op.load 47 (Operand.tmp 20), type := 47, pos := "law.go:135", after := #[{ on := 2, ground := Ground.guard }], guard := some (2, false) }) (v := ?_) rfl (by kernel_rfl) (by kernel_rfl) (by kernel_rfl) (fun _ _ _ h => h) (Or.inl ⟨by kernel_rfl, ?_⟩) hHeld ?_
                          rotate_left 1
                          · (intro w0 hSw; obtain ⟨s1, s2, s3, s4⟩ := hSw; go_simp; (try with_reducible rfl))
                          simp only [Act.put, List.setIfInBounds_toArray, List.set_cons_zero, List.set_cons_succ]
                          refine wpAnyH_take (i := 10) (oi := { dst := some 198, op := Op.move (Operand.tmp 19), type := 3, pos := "law.go:135", after := #[{ on := 2, ground := Ground.guard }], guard := some (2, false) }) (v := ?_) rfl (by kernel_rfl) (by kernel_rfl) (by kernel_rfl) (fun _ _ _ h => h) (Or.inl ⟨by kernel_rfl, ?_⟩) hHeld ?_
                          rotate_left 1
                          · (intro w0 hSw; obtain ⟨s1, s2, s3, s4⟩ := hSw; go_simp; (try with_reducible rfl))
                          simp only [Act.put, List.setIfInBounds_toArray, List.set_cons_zero, List.set_cons_succ]
                          refine wpAnyH_take (i := 11) (oi := { dst := some 199, op := Op.move (Operand.tmp 13), type := 38, pos := "law.go:135", after := #[{ on := 2, ground := Ground.guard }], guard := some (2, false) }) (v := ?_) rfl (by kernel_rfl) (by kernel_rfl) (by kernel_rfl) (fun _ _ _ h => h) (Or.inl ⟨by kernel_rfl, ?_⟩) hHeld ?_
                          rotate_left 1
                          · (intro w0 hSw; obtain ⟨s1, s2, s3, s4⟩ := hSw; go_simp; (try with_reducible rfl))
                          simp only [Act.put, List.setIfInBounds_toArray, List.set_cons_zero, List.set_cons_succ]
                          refine wpAnyH_take (i := 4) (oi := { dst := some 192, op := Op.convert 42 9 (Operand.tmp 191), type := 9, pos := "law.go:135", after := #[{ on := 3, ground := Ground.data }, { on := 2, ground := Ground.guard }], guard := some (2, false) }) (v := ?_) rfl (by kernel_rfl) (by kernel_rfl) (by kernel_rfl) (fun _ _ _ h => h) (Or.inl ⟨by kernel_rfl, ?_⟩) hHeld ?_
                          rotate_left 1
                          · (intro w0 hSw; obtain ⟨s1, s2, s3, s4⟩ := hSw; go_simp; (try with_reducible rfl))
                          simp only [Act.put, List.setIfInBounds_toArray, List.set_cons_zero, List.set_cons_succ]
                          refine wpAnyH_take (i := 7) (oi := { dst := some 195, op := Op.load 3 (Operand.tmp 194), type := 3, pos := "law.go:135", after := #[{ on := 6, ground := Ground.data }, { on := 2, ground := Ground.guard }], guard := some (2, false) }) (v := ?_) rfl (by kernel_rfl) (by kernel_rfl) (by kernel_rfl) (fun _ _ _ h => h) (Or.inl ⟨by kernel_rfl, ?_⟩) hHeld ?_
                          rotate_left 1
                          · (intro w0 hSw; obtain ⟨s1, s2, s3, s4⟩ := hSw; go_simp; (try with_reducible rfl))
                          simp only [Act.put, List.setIfInBounds_toArray, List.set_cons_zero, List.set_cons_succ]
                          refine wpAnyH_take (i := 12) (oi := { dst := some 200, op := Op.call { callee := Callee.builtin Builtin.len, args := #[Operand.tmp 199], argTypes := #[38] }, type := 3, pos := "law.go:135", after := #[{ on := 11, ground := Ground.data }, { on := 2, ground := Ground.guard }], guard := some (2, false) }) (v := ?_) rfl (by kernel_rfl) (by kernel_rfl) (by kernel_rfl) (fun _ _ _ h => h) (Or.inl ⟨by kernel_rfl, ?_⟩) hHeld ?_
                          rotate_left 1
                          · (intro w0 hSw; obtain ⟨s1, s2, s3, s4⟩ := hSw; go_simp; (try with_reducible rfl))
                          simp only [Act.put, List.setIfInBounds_toArray, List.set_cons_zero, List.set_cons_succ]
                          refine wpAnyH_take (i := 13) (oi := { dst := some 201, op := Op.binOp BinOp.sub 3 (Operand.tmp 200) (Operand.const (Value.int IntKind.i64 1)) 3, type := 3, pos := "law.go:135", after := #[{ on := 12, ground := Ground.data }, { on := 2, ground := Ground.guard }], guard := some (2, false) }) (v := ?_) rfl (by kernel_rfl) (by kernel_rfl) (by kernel_rfl) (fun _ _ _ h => h) (Or.inl ⟨by kernel_rfl, ?_⟩) hHeld ?_
                          rotate_left 1
                          · (intro w0 hSw; obtain ⟨s1, s2, s3, s4⟩ := hSw; go_simp; (try with_reducible rfl))
                          simp only [Act.put, List.setIfInBounds_toArray, List.set_cons_zero, List.set_cons_succ]
                          refine wpAnyH_take (i := 14) (oi := { dst := some 202, op := Op.binOp BinOp.eql 3 (Operand.tmp 198) (Operand.tmp 201) 3, type := 4, pos := "law.go:135", after := #[{ on := 10, ground := Ground.data }, { on := 13, ground := Ground.data }, { on := 2, ground := Ground.guard }], guard := some (2, false) }) (v := ?_) rfl (by kernel_rfl) (by kernel_rfl) (by kernel_rfl) (fun _ _ _ h => h) (Or.inl ⟨by kernel_rfl, ?_⟩) hHeld ?_
                          rotate_left 1
                          · (intro w0 hSw; obtain ⟨s1, s2, s3, s4⟩ := hSw; go_simp; (try with_reducible rfl))
                          simp only [Act.put, List.setIfInBounds_toArray, List.set_cons_zero, List.set_cons_succ]
                          refine wpAnyH_ready (rs := [15]) (by kernel_rfl) (by simp) ?_
                          refine AllReadyH.cons (o := { dst := some 203, op := Op.call { callee := Callee.value (Operand.func 19), args := #[Operand.tmp 193, Operand.tmp 195, Operand.tmp 196, Operand.tmp 197, Operand.tmp 202], argTypes := #[3, 3, 3, 47, 4] }, type := 42, pos := "law.go:135", after := #[{ on := 5, ground := Ground.data }, { on := 7, ground := Ground.data }, { on := 8, ground := Ground.data }, { on := 9, ground := Ground.data }, { on := 14, ground := Ground.data }, { on := 2, ground := Ground.chain }, { on := 2, ground := Ground.guard }], guard := some (2, false) }) rfl (fun K hK => ?_) AllReadyH.nil
                          go_simp
                          with_reducible refine (KSec.out _).mono ?_
                          rintro e w11 ⟨Bs, ds, rfl, kd, l11⟩
                          have LS : Below w10.heap.size w10 w11 := ((Below.refl w10.heap.size w10).drew).trans l11
                          refine hK.out _ _ (KE.out _ LS) (fun hHeld => ?_)
                          clear hK K
                          refine wpAnyH_ready (rs := [16]) (by kernel_rfl) (by simp) ?_
                          refine AllReadyH.cons (o := { dst := some 204, op := Op.convert 42 9 (Operand.tmp 203), type := 9, pos := "law.go:135", after := #[{ on := 15, ground := Ground.data }, { on := 2, ground := Ground.guard }], guard := some (2, false) }) rfl (fun K hK => ?_) AllReadyH.nil
                          go_simp
                          refine hK.out _ _ hHeld (fun hHeld => ?_)
                          clear hK K
                          refine wpAnyH_take (i := 17) (oi := { dst := some 205, op := Op.binOp BinOp.neq 9 (Operand.tmp 192) (Operand.tmp 204) 9, type := 4, pos := "law.go:135", after := #[{ on := 4, ground := Ground.data }, { on := 16, ground := Ground.data }, { on := 2, ground := Ground.guard }], guard := some (2, false) }) (v := ?_) rfl (by kernel_rfl) (by kernel_rfl) (by kernel_rfl) (fun _ _ _ h => h) (Or.inl ⟨by kernel_rfl, ?_⟩) hHeld ?_
                          rotate_left 1
                          · (intro w0 hSw; obtain ⟨s1, s2, s3, s4⟩ := hSw; go_simp; (try with_reducible rfl))
                          simp only [Act.put, List.setIfInBounds_toArray, List.set_cons_zero, List.set_cons_succ]
                          refine wpAnyH_take (i := 18) (oi := { dst := some 206, op := Op.pick (Operand.tmp 190) (Operand.const (Value.bool true)) (Operand.tmp 205), type := 4, pos := "law.go:135", after := #[{ on := 2, ground := Ground.data }, { on := 17, ground := Ground.data }], guard := none }) (v := ?_) rfl (by kernel_rfl) (by kernel_rfl) (by kernel_rfl) (fun _ _ _ h => h) (Or.inl ⟨by kernel_rfl, ?_⟩) hHeld ?_
                          rotate_left 1
                          · (intro w0 hSw; obtain ⟨s1, s2, s3, s4⟩ := hSw; go_simp; (try with_reducible rfl))
                          simp only [Act.put, List.setIfInBounds_toArray, List.set_cons_zero, List.set_cons_succ]
                          refine wpAnyH_done (by kernel_rfl) ?_ _
                          clear s1 s2 s3 s4 hlast hsub kd
                          go_wp2
                          go_roundw
                          case rel =>
                            have l9 : Below w9.heap.size w9 w11 := L10.out.trans (LS.mono L10.out.size)
                            have hB9 : GB w1.heap.size gs ((gD rm q P).take k3 ++ [((pg : Int), xs)]) u10 v2 w9 := HB3.out.push (x := ((pg : Int), xs)) (by rw [HLen.out]; omega) (by rw [HLen.out]; exact HQ.out.1) HQ.out.2.1 HQ.out.2.2
                            have hY9 : KeepY badR (W1.alloc (.cells #[.int .i64 (pg : Nat), .string xs] 47)) w9 := KeepY.grown HO3.out (by decide) HQ.out.2.1
                            have hR9 : GrpR wi.heap.size w11 rm P q (.slice (some ⟨g17, 0, none⟩) q c17) := (HR3.out.keepY hY9 (by decide) (by decide)).keepY (bad := badR) (KeepY.below l9) (by decide) (by decide)
                            refine ⟨k3 + 1, by omega, by congr 1, by go_num, ?_, hR9, HS9.out.below l9⟩
                            rw [take_snoc HX.out]
                            exact hB9.below l9
                          case measure => simp [intOf]; omega
                        · obtain rfl : k3 = q := by omega
                          have HGl := Lib.hid (show GB w1.heap.size gs (gD rm k3 P) u10 u18 wj by
                            have := HGj.out
                            rw [List.take_of_length_le (by rw [gD_len]; omega)] at this
                            exact this)
                          obtain ⟨⟨A5, c5, h5⟩, ⟨A7', c7', h7⟩, hl1, hl2⟩ := HGl.out.len
                          rw [gD_len] at h7
                          obtain ⟨gn, hgn'⟩ : ∃ m, m = gs.length := ⟨_, rfl⟩
                          rw [← hgn'] at h5 hl1 hgl
                          have HGn := Lib.hid hgl
                          subst h5 h7
                          obtain ⟨vs, hvs⟩ := HGl.out.own.1
                          rw [← hgn'] at hvs
                          have HV := Lib.hid hvs
                          have HLen := Lib.hid hgn'
                          clear hvs hgn' hlen hl2
                          have l3 : Below wj.heap.size wj (wj.alloc (.cells #[.slice A7' k3 c7'] 45)) := (Below.refl _ _).alloc (Nat.le_refl _) _
                          have L3 := Lib.hid l3
                          have HB3 := Lib.hid (HGl.out.below l3)
                          have HS3 := Lib.hid (HSj.out.below l3)
                          have HV3 := Lib.hid (own_belowR HV.out l3)
                          have hnq : nx + k3 ≤ cn := by have := HOKs.out.2.1.al.nx; rw [HOKs.out.2.2.1] at this; exact this
                          have KLf := Lib.hid (show ∀ W, LSt w1 w1.heap.size b f cn ep M0 L' W → Calls Try.prog 20 #[.pointer (some ⟨b, 0, none⟩)] W fun e w' => e = .returned (.int .i64 ((cn : Int) - ((nx : Int) + (k3 : Int)))) ∧ Below W.heap.size W w' from fun W hs => by
                            have := lst_left hs (by omega) HOKs.out.2.1.al.nx
                            rw [HOKs.out.2.2.1] at this
                            rw [show (cn : Int) - ((nx : Int) + (k3 : Int)) = (cn : Int) - ((nx + k3 : Nat) : Int) by omega]
                            exact this)
                          have KDd := Lib.hid (show ∀ W, LSt w1 w1.heap.size b f cn ep M0 L' W → Calls Try.prog 21 #[.pointer (some ⟨b, 0, none⟩)] W fun e w' => e = .returned (.bool false) ∧ W = w' from fun W hs => by
                            have := lst_dead hs
                            rw [HOKs.out.2.2.2.1] at this
                            exact this)
                          have hne0 : (((cn : Int) - ((nx : Int) + (k3 : Int))) != ((cn : Int) - ((nx : Int) + (k3 : Int)))) = false := by simp
                          have hwr : IntKind.i64.wrap ((cn : Int) - ((nx : Int) + (k3 : Int))) = (cn : Int) - ((nx : Int) + (k3 : Int)) := by rw [IntKind.wrap_i64]; omega
                          clear l3
                          go_wp2_with (at_builtin; refine wpList_append_own_at _ rfl _ _ 37 rfl w1.heap.size 45 i1 (.slice none 0 0) 1 24 Try.underlying37 HIn.out.1 HIn.out.2.1 HIn.out.2.2.1 HIn.out.2.2.2 rfl (by decide) _ _ _ rfl HV3.out ⟨wj.heap.size, 0, none⟩ 1 1 [.slice A7' k3 c7'] rfl rfl (cells_newR1 _ _ _) (by simp [Value.oneCell']) (by unfold maxLen; omega) (by omega) (by simp; omega) ?_; intro v2 w9 hown hgr _ hat; have HS9 := Lib.hid (HS3.out.grown HV3.out (Nat.le_refl _) (by decide) (by decide) hgr); have HQ := Lib.hid (And.intro hown hgr); clear hown hgr hat)
                          clear b0 b1 b2 b3 b4
                          have bx9 := (BW.out _ HS9.out.from0).2.2.1
                          have KB9 := Lib.hid (show ∀ W, Below w9.heap.size w9 W → W.cell? ⟨w.heap.size, 2, none⟩ = some (.int .i64 (cn : Nat)) from fun W l => kept_l l (cell_lt' bx9) bx9)
                          go_region_held_law (fun W => W.cell? ⟨w.heap.size, 2, none⟩ = some (.int .i64 (cn : Nat)))
                            (first | exact KB9.out _ LS | exact KB9.out _ (Below.refl _ _).drew)
                            (first
                              | (go_at_call 20; (with_reducible refine (KLf.out _ (HS9.out.below ((Below.refl _ _).drew))).mono ?_); rintro e w10 ⟨rfl, l10⟩; have LS : Below w9.heap.size w9 w10 := ((Below.refl w9.heap.size w9).drew).trans l10)
                              | (go_at_call 21; (with_reducible refine (KDd.out _ (HS9.out.below LS)).mono ?_); rintro e w11 ⟨rfl, rfl⟩))
                          clear bx9
                          have LSh := Lib.hid LS
                          clear LS hne0 hwr
                          go_wp2
                          go_roundw
                          case rel =>
                            refine ⟨k + 1, L', gs ++ [gD rm k3 P], by omega, by rw [HOKs.out.2.2.1]; congr 1, by go_num, HOKs.out.2.1, by rw [List.length_append, ← HLen.out]; simp; have := HGn.out; omega, ?_, HS9.out.below LSh.out⟩
                            exact (HB3.out.close (by rw [← HLen.out]; have := HL.out.1; omega) (fun vs' hv => by
                              rw [← HLen.out] at hv ⊢
                              rw [own_same hv HV3.out]
                              exact HQ.out.1) HQ.out.2).below LSh.out
                          case measure => simp [intOf]; omega
              · have hxb : (x3 == 0) = false := by simpa using hx0
                have hxn : (x3 != 0) = true := by simpa using hx0
                have HX0 := Lib.hid hx0
                have hRR : R = x3 := by
                  rw [HRf.out (by
                    rcases Nat.eq_zero_or_pos j with z | z
                    · exfalso
                      subst z
                      obtain rfl : q = 0 := by omega
                      exact hx0 (by rw [HX3.out]; show x1 = 0; rw [HX1.out]; rfl)
                    · exact z), ← HX1.out]
                  have hst := wrong3_stay (x1 := x1) (rm := rm) (P := P) (j := q) (by rw [← HX3.out]; exact hx0) (j - q)
                  rw [show q + (j - q) = j by omega, ← HX3.out] at hst
                  rw [hst, if_pos hx0]
                have hzb : ((j : Int) == 0) = false := by
                  rcases Nat.eq_zero_or_pos j with z | z
                  · exfalso
                    subst z
                    obtain rfl : q = 0 := by omega
                    exact hx0 (by rw [HX3.out]; show x1 = 0; rw [HX1.out]; rfl)
                  · simp; omega
                obtain ⟨hr0, hL0⟩ : r = R ∧ L' = L := by
                  rcases HN.out with ⟨_, h1, h2⟩ | ⟨h0, _⟩
                  · exact ⟨h1, h2⟩
                  · exact absurd h0 (by rw [hRR]; exact hx0)
                subst hL0
                subst hr0
                subst hRR
                clear hx0
                by_cases hql : q < j
                all_goals
                  go_wp2
                  go_roundw
                  case rel => exact ⟨k + 1, _, gs, by omega, by rw [HNx.out], by go_num, HOk.out, by omega, GB6.out, S6'.out⟩
                  case measure => simp [intOf]; omega
      · obtain rfl : k = n := by omega
        obtain ⟨⟨A5, c5, h5⟩, _⟩ := HGb.out.len
        have HSz := Lib.hid HOk.out.size
        have KT0 := Lib.hid (show ∀ W, LSt w1 w1.heap.size b f cn ep M0 L W → Calls Try.prog 22 #[.pointer (some ⟨M0.p, 0, none⟩), .int .i64 (f : Nat), .int .i64 (cn : Nat)] W fun e w' => e = .returned (.tuple #[.int .i64 (if 0 < nx then (ep : Int) else 0), .int .i64 0]) ∧ Below W.heap.size W w' from fun W hs => by
          obtain ⟨v, hO⟩ := hs.1
          have h := latest_at w1.heap.size f cn { M0 with vl := v } L.S W hO.d HOk.out.up.d ⟨by omega, by omega, by omega, by rw [HOk.out.N]; omega⟩
          rw [HOk.out.latest (by omega), ← HNx.out] at h
          rw [show (if 0 < nx then (ep : Int) else 0) = ((if 0 < nx then ep else 0 : Nat) : Int) by split <;> rfl]
          exact h)
        have KRm := Lib.hid (show ∀ W, Calls Try.prog 24 #[.int .i64 (sz : Nat)] W fun e w' => e = .returned (.int .i64 (rm : Nat)) ∧ W = w' from fun W => (lroom_any (sz : Nat) W (by omega) (by omega)).mono fun e w' ⟨he, hw⟩ => ⟨by rw [he]; exact ret_int (by unfold roomI; rw [if_pos (by omega)]; have := HRm.out; omega), hw⟩)
        have KRd := Lib.hid (lst_read f cn ep HS.out HOk.out.up.d (by omega) (by omega) (by rw [HOk.out.N]; omega) he1 he2)
        subst h5
        by_cases hnx0 : 0 < nx
        all_goals
          first
            | rw [if_pos hnx0] at KT0
            | rw [if_neg hnx0] at KT0
          go_wp2_with fail
          refine KRd.out.mono ?_
          intro e w8 hr8
          obtain ⟨kr, vr, hkr, hchr, hnor, rfl, hlgs, l8⟩ := read_lgs (by rw [HSz.out]; omega) (by omega) hr8
          rw [HOk.out.read he1 hkr hchr hnor] at hlgs
          obtain ⟨Ar, cr, rfl, hlr⟩ := hlgs.len
          obtain ⟨X, hgd⟩ := (HGb.out.below l8).gd
          have S8 := Lib.hid (HS.out.below l8)
          have HLg := Lib.hid hlgs
          have HGd := Lib.hid hgd
          clear b0 b1 b2 b3 b4 hr8 hchr hnor hlgs hgd l8
          obtain ⟨b0, b1, b2, b3, b4⟩ := BW.out _ S8.out.from0
          go_wp2_with fail
          refine (KT0.out _ S8.out).mono ?_
          rintro e w9 ⟨rfl, l9⟩
          have S9 := Lib.hid (S8.out.below l9)
          have KT := Lib.hid (told_any _ _ gs gs X w9 (HLg.out.below l9) (HGd.out.below l9))
          rw [show Sm gs gs = true from decide_eq_true rfl] at KT
          clear b0 b1 b2 b3 b4 l9
          obtain ⟨b0, b1, b2, b3, b4⟩ := BW.out _ S9.out.from0
          go_wp2_with (first
            | (go_at_call 23; refine KT.out.mono ?_; rintro e w10 ⟨rfl, l10⟩; have S10 := Lib.hid (S9.out.below l10); clear l10)
            | (go_at_call 24; refine (KRm.out _).mono ?_; rintro e w11 ⟨rfl, rfl⟩)
            | (go_at_call 14; refine (lawake_any _).mono ?_; rintro e w12 ⟨rfl, l12⟩))
          go_ret
          exact ⟨rfl, L1.out.trans ((S10.out.from0.trans (l12.mono S10.out.from0.size)).mono L1.out.size)⟩
theorem logAppends_walk (more f cn ep : Int) (A : Option Addr) (n c : Nat) (G : Nat → SlD) (Q : Nat → Nat → PutD) (w : World) (hmo : 0 ≤ more ∧ more < 256) (hf : -9223372036854775808 ≤ f ∧ f ≤ 9223372036854775807) (hcn : -9223372036854775808 ≤ cn ∧ cn ≤ 9223372036854775807) (hep : -9223372036854775808 ≤ ep ∧ ep ≤ 9223372036854775807) (hG : PutsG w A n G Q) :
    Calls Try.prog 3 #[.agg #[.int .u8 more, .int .i64 f, .int .i64 cn, .int .i64 ep, .slice A n c]] w fun e w' => e = .returned (.bool true) ∧ Below w.heap.size w w' := @logAppends_gen ⟨fun _ => True⟩ more f cn ep A n c G Q w hmo hf hcn hep hG fun _ _ => trivial
end Go.Proofs.Ytdbfmllcapikkaa
