/- Merged texts: LRdW. -/
import Derived.Test.YtmikemijdglgaaaQi
import Derived.Deep.DeepCutAuto
import Derived.Deep.CutRange
/- LogReads' walk. -/
namespace Go.Proofs.Ytmikemijdglgaaa
open Go.RowKit
set_option linter.unusedVariables false
set_option linter.unusedSimpArgs false

theorem infoSl : (Try.prog.info? 42).map (fun i => (i.zero, i.size, i.bytes)) = some (some (.slice none 0 0), 1, 24) := by kernel_rfl
set_option maxRecDepth 100000 in
set_option maxHeartbeats 16000000 in
theorem logReads_gen [Spare] (A : Option Addr) (n c : Nat) (X : Nat → SltD) (ep : Int) (w : World) (hX : Slts w A n X) (hep : In64L ep) (hE : ∀ g, w.heap.size ≤ g → Spare.ok g) :
    Calls Try.prog 4 #[.slice A n c, .int .i64 ep] w fun e w' => e = .returned (.bool true) ∧ Below w.heap.size w w' := by
  have hn := hX.1
  by_cases h1 : (n : Int) > 10
  · go_enter Try.func4, Try.ntmps4
    go_wp2
    go_ret
    exact ⟨rfl, Below.refl _ _⟩
  by_cases h2 : (n : Int) = 0
  · go_enter Try.func4, Try.ntmps4
    go_wp2
    go_ret
    exact ⟨rfl, Below.refl _ _⟩
  by_cases h3 : ep < 1
  · go_enter Try.func4, Try.ntmps4
    go_wp2
    go_ret
    exact ⟨rfl, Below.refl _ _⟩
  by_cases h4 : ep > 1099511627776
  · go_enter Try.func4, Try.ntmps4
    go_wp2
    go_ret
    exact ⟨rfl, Below.refl _ _⟩
  obtain ⟨en, rfl⟩ := Int.eq_ofNat_of_zero_le (show 0 ≤ ep by omega)
  have hnl : n ≤ 10 := by omega
  have hn1 : 1 ≤ n := by omega
  have he1 : 1 ≤ en := by omega
  have he2 : en ≤ 1099511627776 := by omega
  obtain ⟨b, o, rfl, hcell⟩ := hX.2.2 hn1
  have HX := Lib.hid hX
  have HC := Lib.hid hcell
  clear hX hcell
  go_enter Try.func4, Try.ntmps4
  go_wp2_with fail
  refine (new_ok 12 64 w (by omega) (by omega) hE).mono ?_
  rintro e w2 ⟨M0, rfl, d2, l2⟩
  have hM : M0.p < w2.heap.size ∧ M0.bf < w2.heap.size ∧ M0.bn < w2.heap.size := by
    obtain ⟨V, v1, _⟩ := id d2.vf
    obtain ⟨U, u1, _⟩ := id d2.vn
    exact ⟨(Array.getElem?_eq_some_iff.1 d2.hp).1, v1.lt, u1.lt⟩
  obtain ⟨S0, hS0⟩ : ∃ S0, S0 = newS 12 64 := ⟨_, rfl⟩
  have hup0 : Up S0 := by rw [hS0]; exact ⟨rfl, rfl⟩
  have hsz0 : S0.size = 64 := by rw [hS0]; rfl
  have hN0 : S0.N = 12 := by rw [hS0]; rfl
  have hL0 : S0.loose.length = 0 := by rw [hS0]; rfl
  obtain ⟨n2, hn2⟩ : ∃ n2, n2 = w2.heap.size := ⟨_, rfl⟩
  obtain ⟨sec, hsec⟩ : ∃ sec : Nat → Nat → Nat, sec = fun i => slF (X i) := ⟨_, rfl⟩
  have HSec := Lib.hid hsec
  have hOn0 : On w w.heap.size M0 S0 w2 := ⟨by rw [hS0]; exact d2, l2, Nat.le_refl _⟩
  have HOn0 := Lib.hid hOn0
  have HUp := Lib.hid hup0
  have hwn : w.heap.size ≤ n2 := by rw [hn2]; exact l2.size
  have HN2 := Lib.hid hn2
  rw [← hn2] at hM
  clear hS0 hOn0 d2 l2 hup0 hn2 hsec h2
  obtain ⟨i1, hi1, hy0, hy1, hy2⟩ := infoPartsR infoSl
  have HI1 := Lib.hid (And.intro hi1 (And.intro hy0 (And.intro hy1 hy2)))
  clear hi1 hy0 hy1 hy2
  go_wp2
  go_loopw [6, 7] (fun u i wr => ∃ (k : Nat) (v : Value), k ≤ n ∧ i = .int .i64 k ∧ On w w.heap.size { M0 with vl := v } (wrS 1 64 sec S0 k) wr ∧ SB n2 k sec u wr ∧ n2 ≤ wr.heap.size) (fun u i _ => n - (intOf i).toNat)
  case atStart => exact ⟨0, M0.vl, Nat.zero_le _, rfl, HOn0.out, SB.nil_ _ _ _, Nat.le_of_eq HN2.out⟩
  case round =>
    obtain ⟨k, v, hk, rfl, hOn, hSB, hzr⟩ := hrel
    obtain ⟨wo, hwo⟩ : ∃ wo, wo = wr := ⟨_, rfl⟩
    subst hwo
    have HOn := Lib.hid hOn
    obtain ⟨xs0, hxs0⟩ := id hSB
    obtain ⟨A6, c6, rfl⟩ := own_sl hxs0.1
    have HSB := Lib.hid hSB
    clear hOn hSB hxs0
    by_cases hlt : k < n
    · obtain ⟨x, hx⟩ : ∃ x, x = X k := ⟨_, rfl⟩
      have hat := (HC.out k hlt).below HOn.out.b
      have hok := (HX.out.2.1 k hlt).below HOn.out.b
      rw [← hx] at hat hok
      have HXk := Lib.hid (show sec k = slF x by rw [HSec.out, hx])
      obtain ⟨xe, xa, xp, xl, xA, xm, xc, xF, xr⟩ := x
      have HOk := Lib.hid hok
      obtain ⟨oe, oa, op, ol, ob, on, omc, occ⟩ := hok
      dsimp only at oe oa op ol ob on omc occ
      have hmk := run_make_row' (P := Try.prog) 42 5 (.int .u8 0) 1 Try.underlying42 u8info rfl .i64 .i64 64 (by omega) (by omega)
      rw [show ((64 : Nat) : Int) = 64 from rfl] at hmk
      have R0 := Lib.hid (BRow.made wo 64 (by omega))
      obtain ⟨Wb, hWb⟩ : ∃ Wb, Wb = wo.alloc (.cells (madeCells #[.int .u8 0] 64) 5) := ⟨_, rfl⟩
      have lb : Below wo.heap.size wo Wb := by rw [hWb]; exact (Below.refl _ _).alloc (Nat.le_refl _) _
      have HAt := Lib.hid (hat.below lb)
      have HWb := Lib.hid hWb
      have LB := Lib.hid lb
      rw [← hWb] at R0
      have OB := Lib.hid (ob.below lb (Nat.le_refl _))
      obtain ⟨a0, a1, a2, a3, a4, a5⟩ := hat.below lb
      rw [hWb] at a0 a1 a2 a3 a4 a5
      dsimp only at a0 a1 a2 a3 a4 a5
      clear hat hx hWb lb ob
      go_upto_if 47 with (fail)
      go_cut [8] (fun bv wx => ∃ B cb, bv = .slice (some ⟨B, 0, none⟩) 64 cb ∧ 64 ≤ cb ∧ cb ≤ 9223372036854775807 ∧ UB wx B (sec k) ∧ Below wo.heap.size wo wx)
      case first =>
        cases xr
        · by_cases hsl : okSl ⟨xe, xa, xp, xl, xA, xm, xc, xF, false⟩ = true
          · obtain ⟨g1, g2, g3, g4, g5⟩ := of_decide_eq_true hsl
            dsimp only at g1 g2 g3 g4 g5
            have HSl := Lib.hid hsl
            obtain ⟨ye, rfl⟩ := Int.eq_ofNat_of_zero_le (show 0 ≤ xe by omega)
            obtain ⟨ya, rfl⟩ := Int.eq_ofNat_of_zero_le g3
            obtain ⟨yp, rfl⟩ := Int.eq_ofNat_of_zero_le g5
            obtain ⟨lb, hlb⟩ : ∃ lb, lb = decide (xl % 2 = 1) := ⟨_, rfl⟩
            have hrem : ((xl : Int) % 2 == 1) = lb := by
              rw [hlb, show (xl : Int) % 2 = ((xl % 2 : Nat) : Int) by omega]
              rcases Nat.mod_two_eq_zero_or_one xl with h | h <;> rw [h] <;> rfl
            have hrem2 : ((xl : Int).tmod 2 == 1) = lb := by rw [Int.tmod_eq_emod_of_nonneg (by omega)]; exact hrem
            have KC := Lib.hid (show ∀ W, Below Wb.heap.size Wb W → W.cell? ⟨b, o + k * 6, none⟩ = some (.int .i64 (ye : Nat)) ∧ W.cell? ⟨b, o + k * 6 + 1, none⟩ = some (.int .i64 (ya : Nat)) ∧ W.cell? ⟨b, o + k * 6 + 2, none⟩ = some (.int .i64 (yp : Nat)) ∧ W.cell? ⟨b, o + k * 6 + 3, none⟩ = some (.int .u8 (xl : Nat)) from fun W l => by
              obtain ⟨z0, z1, z2, z3, _, _⟩ := HAt.out.below l
              exact ⟨z0, z1, z2, z3⟩)
            obtain ⟨_, op2⟩ := op
            have KS := Lib.hid (fun W => refSector_any 64 ye ya yp 19 lb (fun _ => xl) W (by omega) (by omega) (by omega) (by omega) (by omega) (by omega) (by omega) (fun _ _ => ol))
            have KF := Lib.hid (show ∀ W, Calls Try.prog 25 #[.int .u8 (xl : Nat), .int .i64 19] W fun e w' => ∃ B, e = .returned (.slice (some ⟨B, 0, none⟩) 19 19) ∧ (convert 42 9 (.slice (some ⟨B, 0, none⟩) 19 19)).run Try.prog w' = .ok (.string (strF (fun _ => xl) 19)) w' ∧ Below W.heap.size W w' from fun W => (lfull_any xl 19 W (by omega) (by omega)).mono fun e w' h => by
              obtain ⟨rfl, r3, l3⟩ := h
              exact ⟨_, rfl, conv_any 19 ((r3.bytes (o := 0) (m := 19) (by omega)).congr (G := fun _ => xl) fun i _ => rfl), l3⟩)
            obtain ⟨st, hst⟩ : ∃ st, st = strF (fun _ => xl) 19 := ⟨_, rfl⟩
            rw [← hst] at KS KF
            clear hst
            have HLb := Lib.hid hlb
            clear hsl hlb
            go_wp2_with fail
            rw [← HWb.out]
            clear a0 a1 a2 a3 a4 a5
            go_region_held_law (fun W => W.cell? ⟨b, o + k * 6, none⟩ = some (.int .i64 (ye : Nat)) ∧ W.cell? ⟨b, o + k * 6 + 1, none⟩ = some (.int .i64 (ya : Nat)) ∧ W.cell? ⟨b, o + k * 6 + 2, none⟩ = some (.int .i64 (yp : Nat)) ∧ W.cell? ⟨b, o + k * 6 + 3, none⟩ = some (.int .u8 (xl : Nat)))
              (first | exact KC.out _ LX.out | exact KC.out _ LW.out | exact KC.out _ (Below.refl _ _) | exact KC.out _ (Below.refl _ _).drew | go_keep)
              (first
                | (go_at_call 25; refine (KF.out _).mono ?_; rintro e W3 ⟨B3, rfl, q3, l3⟩; have LW := Lib.hid (show Below Wb.heap.size Wb W3 from by first | exact l3 | exact (Below.refl _ _).drew.trans l3); clear l3)
                | (go_at_call 19; refine (KS.out _).mono ?_; rintro e W4 ⟨B, d, rfl, o4, l4⟩; have LX := Lib.hid (LW.out.trans (l4.mono LW.out.size)); have O4 := Lib.hid o4; clear l4 o4))
            go_wp2_with fail
            go_meet
            case rel =>
              obtain ⟨B5, rfl, _, hu⟩ := UB.own O4.out
              refine ⟨B5, d, rfl, O4.out.2.2.1, O4.out.2.2.2.1, ?_, LB.out.trans (LX.out.mono LB.out.size)⟩
              rw [HXk.out, slF, if_neg (by simp), if_pos HSl.out]
              rw [HLb.out] at hu
              exact hu
          · have HSl := Lib.hid hsl
            clear hsl
            have hu := UB.row (R0.out) (Nat.le_refl _)
            have HU := Lib.hid (show UB Wb wo.heap.size (sec k) by rw [HXk.out, slF, if_neg (by simp), if_neg HSl.out]; exact hu)
            clear hu
            go_wp2_with fail
            all_goals
              first
              | (exfalso; refine HSl.out (decide_eq_true ?_); dsimp only; omega)
              | (go_meet
                 case rel =>
                  rw [← HWb.out]
                  exact ⟨_, _, rfl, Nat.le_refl _, by omega, HU.out, LB.out⟩)
        · have r0 := R0.out
          have b0 := OB.out
          rw [HWb.out] at r0 b0
          go_wp2_with (with_reducible refine wpList_copy_bytes rfl _ _ 42 42 rfl Try.underlying42 u8size _ _ _ _ _ _ rfl rfl wo.heap.size 0 64 (Nat.min xm 64) _ xF r0 b0 ?e1 ?e2 ?e3 ?e4)
          case e1 => rfl
          case e3 => rw [Nat.zero_add]; exact Nat.min_le_right _ _
          case e4 =>
            intro w5 r5 g5
            have HU := Lib.hid (show UB w5 wo.heap.size (sec k) by rw [HXk.out, slF, if_pos rfl]; exact UB.row r5 (Nat.le_refl _))
            have L5 := Lib.hid (LB.out.grown (HWb.out ▸ g5) LB.out.size (fun q e => by cases e; exact Nat.le_refl _))
            clear r0 b0 r5 g5
            go_wp2_with fail
            go_meet
            case rel => exact ⟨_, _, rfl, Nat.le_refl _, by omega, HU.out, L5.out⟩
      case rest =>
        obtain ⟨B, cb, rfl, hcb, hcb2, hu, lw⟩ := hcut
        have KW := Lib.hid (show Calls Try.prog 26 #[.pointer (some ⟨M0.p, 0, none⟩), .int .i64 ((1 : Int) + (k : Int)), .slice (some ⟨B, 0, none⟩) 64 cb] wc fun e w' => e = .returned (.int .i64 0) ∧ (∃ v', On w w.heap.size { M0 with vl := v' } (wrS 1 64 sec S0 (k + 1)) w') ∧ SB n2 k sec (.slice A6 k c6) w' ∧ UB w' B (sec k) ∧ n2 ≤ w'.heap.size from by
          have O := HOn.out.below lw
          have hs := HSB.out.below lw
          have hlen := wrS_len 1 64 sec S0 k
          rw [show (1 : Int) + (k : Int) = ((1 + k : Nat) : Int) by omega]
          refine (write_any ((1 + k : Nat) : Int) B 0 64 cb (sec k) wc w.heap.size { M0 with vl := v } _ O.d O.le (by omega) hu.2).mono ?_
          rintro e w8 ⟨rfl, l8⟩
          have hI : putI (wrS 1 64 sec S0 k) ((1 + k : Nat) : Int) 64 (sec k) = 0 := by
            have := HUp.out.wrI 1 sec k (by omega)
            rw [hsz0] at this
            exact this
          rw [hI]
          obtain ⟨v', O8⟩ := O.left l8
          obtain ⟨⟨cs, hc⟩, _⟩ := id hu
          obtain ⟨a1, a2, a3, a4⟩ := O.d.apartB hc
          exact ⟨rfl, ⟨v', O8⟩, hs.turns O.d l8.turns hM, hu.same (l8.turns.block B hu.lt a1 a2 a3 a4), Nat.le_trans (Nat.le_trans hzr lw.size) l8.turns.size⟩)
        clear hu lw
        go_wp2_with fail
        refine KW.out.mono ?_
        rintro _ w8 ⟨rfl, ⟨v8, o8⟩, ⟨xs, h8⟩, u8, z8⟩
        have l9 := (Below.refl w8.heap.size w8).alloc (Nat.le_refl _) (.cells #[.slice (some ⟨B, 0, none⟩) 64 cb] 42)
        have O9 := Lib.hid (o8.below l9)
        have U9 := Lib.hid (u8.same (l9.block B u8.lt))
        have S9 := Lib.hid (show SBx n2 k sec (.slice A6 k c6) xs (w8.alloc (.cells #[.slice (some ⟨B, 0, none⟩) 64 cb] 42)) from ⟨own_belowR h8.1 l9, fun i hi => by
          obtain ⟨b', c', e, q1, q2, q3⟩ := h8.2 i hi
          exact ⟨b', c', e, q1, q2, q3.same (l9.block b' q3.lt)⟩⟩)
        clear o8 h8 u8 l9
        go_wp2_with (at_builtin; refine wpList_append_own_at _ rfl _ _ 56 rfl n2 42 i1 (.slice none 0 0) 1 24 Try.underlying56 HI1.out.1 HI1.out.2.1 HI1.out.2.2.1 HI1.out.2.2.2 rfl (by decide) _ _ _ rfl S9.out.1 ⟨w8.heap.size, 0, none⟩ 1 1 [.slice (some ⟨B, 0, none⟩) 64 cb] rfl rfl (cells_newR1 _ _ _) (by simp [Value.oneCell']) (by unfold maxLen; omega) (by omega) (by simp; omega) ?_; intro v2 w9 hown hgr _ hat; have HQ := Lib.hid (And.intro hown hgr); clear hown hgr hat)
        go_roundw
        case rel =>
          exact ⟨k + 1, v8, by omega, by go_num, O9.out.row S9.out.1 HQ.out.2 hM hwn, S9.out.push U9.out hcb hcb2 HQ.out.1 HQ.out.2, by have q := HQ.out.2.size; rw [World.size_alloc] at q; omega⟩
        case measure => simp [intOf]; omega
    · obtain rfl : k = n := by omega
      obtain ⟨T, hT⟩ : ∃ T, T = wrS 1 64 sec S0 k := ⟨_, rfl⟩
      have hTu : Up T := by rw [hT]; exact HUp.out.wr 1 64 sec k
      have hTs : T.size = 64 := by rw [hT, wrS_sz]; exact hsz0
      have hTN : T.N = 12 := by rw [hT, wrS_N]; exact hN0
      have hTn : ∀ i, i < k → T.now (1 + i) = sec i := fun i hi => by
        rw [hT]
        have := wrS_now HUp.out 1 sec k (by omega) i hi
        rw [hsz0] at this
        exact this
      have hTL : T.loose.length ≤ 10 := by
        have := wrS_len 1 64 sec S0 k
        rw [hT]
        omega
      have hF : ∀ i, i < k → ∀ j, j < 64 → sec i j < 256 := fun i hi j hj => by
        obtain ⟨xs, q⟩ := HSB.out
        obtain ⟨b', c', e, q1, q2, q3⟩ := q.2 i hi
        exact q3.2.2.1 j hj
      have hvl : ∀ q, v.ownBlock = some q → q < wo.heap.size := fun q hq => by
        obtain ⟨vs, _, l2, _⟩ := HOn.out.d.lo
        exact (l2.lt q hq).2
      have HOT := Lib.hid (show On w w.heap.size { M0 with vl := v } T wo by rw [hT]; exact HOn.out)
      have HT := Lib.hid (And.intro hTu (And.intro hTs (And.intro hTN (And.intro hTn (And.intro hF hvl)))))
      have hpl : plB T.N (1 : Nat) (k : Nat) := by rw [hTN]; exact ⟨by omega, by omega, by omega, by omega⟩
      have HPl := Lib.hid hpl
      have KR := Lib.hid (show Calls Try.prog 13 #[.pointer (some ⟨M0.p, 0, none⟩), .int .i64 1, .int .i64 (k : Nat), .int .i64 (en : Nat)] wo (ReadP T 1 k en wo) from
        read_at w.heap.size 1 k en { M0 with vl := v } T wo HOT.out.d hTu.d hpl (decide_eq_true ⟨by omega, by omega⟩))
      clear hTu hTs hTN hTn hF hvl hT hpl HOn
      go_wp2_with fail
      refine KR.out.mono ?_
      intro e w8 hr8
      obtain ⟨kr, vr, hkr, hchr, hnor, rfl, hlgs, l8⟩ := read_lgs2 (by rw [HT.out.2.1]; omega) (by omega) hr8
      obtain ⟨gs, hgs⟩ : ∃ gs, gs = (dTo (lastB T 1) (dcOf T 1) kr).1 := ⟨_, rfl⟩
      rw [← hgs] at hlgs
      obtain ⟨Ar, cr, rfl, hlr⟩ := (hlgs w8 (fun _ _ _ => rfl)).len
      have HGs := Lib.hid hgs
      clear hgs
      have O8 := Lib.hid (HOT.out.below l8)
      have S8 := Lib.hid (HSB.out.below l8)
      have HLg := Lib.hid hlgs
      have HCh := Lib.hid (And.intro hchr hnor)
      have hz8 := l8.size
      have KL := Lib.hid (show Calls Try.prog 22 #[.pointer (some ⟨M0.p, 0, none⟩), .int .i64 1, .int .i64 (k : Nat)] w8 fun e w' => e = .returned (.tuple #[.int .i64 (latOf T 1 (List.range k) : Nat), .int .i64 0]) ∧ Below w8.heap.size w8 w' from
        latest_at w.heap.size 1 k { M0 with vl := v } T w8 O8.out.d HT.out.1.d HPl.out)
      obtain ⟨la, hla⟩ : ∃ la, la = latOf T 1 (List.range k) := ⟨_, rfl⟩
      rw [← hla] at KL
      have HLa := Lib.hid (show la = latN sec k by rw [hla]; exact lat_same HT.out.2.1 k HT.out.2.2.2.1)
      clear hr8 hchr hnor hlgs l8 hla
      go_wp2_with fail
      refine KL.out.mono ?_
      rintro e w9 ⟨rfl, l9⟩
      have O9 := Lib.hid (O8.out.below l9)
      have S9 := Lib.hid (S8.out.below l9)
      have L9 := Lib.hid l9
      have hz9 := l9.size
      have hT2 := clS_Up HT.out.1 1 k
      have KCl := Lib.hid (show Calls Try.prog 27 #[.pointer (some ⟨M0.p, 0, none⟩), .int .i64 1, .int .i64 (k : Nat)] w9 fun e w' => e = .returned (.int .i64 0) ∧ (∃ v', On w w.heap.size { M0 with vl := v' } (flushD (clS T 1 k)) w') ∧ SB n2 k sec (.slice A6 k c6) w' ∧ (∀ b, wo.heap.size ≤ b → b < w8.heap.size → w'.heap[b]? = w8.heap[b]?) ∧ w9.heap.size ≤ w'.heap.size from by
        refine (clean_any w.heap.size 1 k { M0 with vl := v } T w9 O9.out.d O9.out.le HT.out.1.d HPl.out (by omega)).mono ?_
        rintro e w' (⟨k', hk', _, hne, _⟩ | ⟨_, rfl, hl⟩)
        · exact absurd (clI_Up HT.out.1 1 k' (by rw [HT.out.2.2.1]; omega)) hne
        · obtain ⟨v', o'⟩ := O9.out.left hl
          refine ⟨by rw [hT2.flushI], ⟨v', o'⟩, S9.out.turns O9.out.d hl.turns hM, fun b hb1 hb2 => ?_, hl.turns.size⟩
          exact (hl.turns.block b (by omega) (by show b ≠ M0.p; omega) (by show b ≠ M0.bf; omega) (by show b ≠ M0.bn; omega) (fun e => by have := HT.out.2.2.2.2.2 b e; omega)).trans (L9.out.block b hb2))
      clear l9
      go_wp2_with fail
      refine KCl.out.mono ?_
      rintro e w10 ⟨rfl, ⟨v10, o10⟩, s10, g10, z10⟩
      have O10 := Lib.hid o10
      have S10 := Lib.hid s10
      have G10 := Lib.hid g10
      have KLo := Lib.hid (show Calls Try.prog 28 #[.pointer (some ⟨M0.p, 0, none⟩)] w10 fun e w' => e = .returned (.int .i64 0) ∧ w10 = w' from (loose_any w10 w.heap.size { M0 with vl := v10 } _ o10.d).mono fun e w' h => by
        obtain ⟨rfl, rfl⟩ := h
        rw [hT2.flush]
        exact ⟨rfl, rfl⟩)
      clear o10 s10 g10
      have hs10 := S10.out.srow (by omega)
      obtain ⟨As, cs, es, hns, hrow⟩ := id hs10
      obtain ⟨rfl, rfl⟩ : As = A6 ∧ cs = c6 := by injection es with e1 _ e3; exact ⟨e1.symm, e3.symm⟩
      obtain ⟨b6, o6, rfl, _⟩ := hrow 0 (by omega)
      have HRow := Lib.hid hrow
      have HS10 := Lib.hid hs10
      have hmk := run_make_row' (P := Try.prog) 42 5 (.int .u8 0) 1 Try.underlying42 u8info rfl .i64 .i64 64 (by omega) (by omega)
      rw [show ((64 : Nat) : Int) = 64 from rfl] at hmk
      have HT2 := Lib.hid hT2
      have hz10 := S10.out
      clear hs10 hrow hns hT2 hz10
      go_wp2_with (go_at_call 28; with_reducible refine KLo.out.mono ?_; rintro _ _ ⟨rfl, rfl⟩)
      go_loopw [13] (fun i W => ∃ j : Nat, j ≤ k ∧ i = .int .i64 j ∧ Below w10.heap.size w10 W) (fun i _ => k - (intOf i).toNat)
      case atStart => exact ⟨0, Nat.zero_le _, rfl, Below.refl _ _⟩
      case round =>
        obtain ⟨j, hj, rfl, hbl⟩ := hrel
        obtain ⟨wi, hwi⟩ : ∃ wi, wi = wr := ⟨_, rfl⟩
        subst hwi
        have HL := Lib.hid hbl
        clear hbl
        by_cases hjl : j < k
        · obtain ⟨b6', o6', e6, b', o', c', q6, hc1, hc2, hby⟩ := HRow.out j hjl
          injection e6 with e6
          injection e6 with e6 e7 _
          subst e6 e7
          have KD := Lib.hid (show Calls Try.prog 18 #[.pointer (some ⟨M0.p, 0, none⟩), .int .i64 ((1 : Int) + (j : Int))] wi fun e w' => ∃ B, e = .returned (.tuple #[.slice (some ⟨B, 0, none⟩) 64 64, .int .i64 0]) ∧ Bytes w' (some ⟨B, 0, none⟩) 64 ((flushD (clS T 1 k)).now (1 + j)) ∧ Below wi.heap.size wi w' from by
            have e64 : (flushD (clS T 1 k)).size = 64 := by rw [flushD_size, clS_size]; exact HT.out.2.1
            have e12 : (flushD (clS T 1 k)).N = 12 := by rw [flushD_N, clS_N]; exact HT.out.2.2.1
            have h := readDisk_ok (1 + j) wi w.heap.size { M0 with vl := v10 } (flushD (clS T 1 k)) (O10.out.d.below HL.out) (by rw [e12]; omega) HT2.out.flushD.d
            rw [e64] at h
            rw [show (1 : Int) + (j : Int) = ((1 + j : Nat) : Int) by omega]
            refine h.mono ?_
            rintro e w' ⟨rfl, hr, hl⟩
            exact ⟨_, rfl, (hr.bytes (o := 0) (m := 64) (by omega)).congr fun i _ => by rw [Nat.zero_add], hl⟩)
          have hst := left_want (n := k) HT.out.1 HT.out.2.1 (by rw [HT.out.2.2.1]; omega) hjl (HT.out.2.2.2.1 j hjl) (HT.out.2.2.2.2.1 j hjl)
          have H6 := Lib.hid q6
          have HBy := Lib.hid hby
          obtain ⟨st, hst2⟩ : ∃ st, st = strF (wantF sec j) 64 := ⟨_, rfl⟩
          rw [← hst2] at hst
          obtain ⟨T2n, hT2n⟩ : ∃ F, F = (flushD (clS T 1 k)).now (1 + j) := ⟨_, rfl⟩
          rw [← hT2n] at hst KD
          have HSt := Lib.hid (And.intro hst hst2)
          clear hst hst2 hT2n q6 hby
          go_wp2_with fail
          refine KD.out.mono ?_
          rintro _ w11 ⟨B, rfl, hb11, l11⟩
          have L11 := Lib.hid (HL.out.trans (l11.mono HL.out.size))
          have HB11 := Lib.hid hb11
          have q11 := kept_l L11.out (cell_lt' H6.out) H6.out
          have hs11 := HBy.out.below L11.out (Nat.le_refl _)
          have HS11 := Lib.hid hs11
          have qc := conv_any c' hs11
          obtain ⟨sj, hsj⟩ : ∃ s, s = strF (sec j) 64 := ⟨_, rfl⟩
          rw [← hsj] at qc
          have HSj := Lib.hid hsj
          clear hb11 l11 hs11 hsj
          go_wp2_with fail
          refine (refSlot_any j b' o' 64 44 c' (sec j) w11 (by omega) (by omega) (by omega) (by omega) (by omega) hc1 hc2 HS11.out).mono ?_
          rintro e w12 ⟨hc, l12⟩
          have L12 := Lib.hid (L11.out.trans (l12.mono L11.out.size))
          have by12 := HB11.out.below l12 (Nat.le_refl _)
          have qb := conv_any 64 by12
          rw [HSt.out.1] at qb
          have l13 : Below w12.heap.size w12 (w12.alloc (.cells (madeCells #[.int .u8 0] 64) 5)) := (Below.refl _ _).alloc (Nat.le_refl _) _
          have qb2 := conv_any 64 (by12.below l13 (Nat.le_refl _))
          rw [HSt.out.1] at qb2
          have L13 := Lib.hid (L12.out.trans (l13.mono L12.out.size))
          rcases hc with ⟨h0, rfl⟩ | ⟨h0, B', d', rfl, _⟩
          · have qz := conv_any 64 (((BRow.made w12 64 (by omega)).bytes (o := 0) (m := 64) (by omega)).congr (G := wantF sec j) fun i _ => by unfold wantF; rw [if_pos h0]; rfl)
            rw [← HSt.out.2] at qz
            clear l12 by12 l13 h0 qc q11
            go_wp2_with fail
            go_roundw
            case rel => exact ⟨j + 1, by omega, by go_num, L13.out⟩
            case measure => simp [intOf]; omega
          · have hsj : sj = st := by rw [HSj.out, HSt.out.2]; unfold wantF; rw [if_neg h0]
            subst hsj
            have hne : ¬ ((epochN (sec j) 44 j : Nat) : Int) = 0 := by omega
            clear l12 by12 l13 h0 qc q11 qb2
            go_wp2_with fail
            go_roundw
            case rel => exact ⟨j + 1, by omega, by go_num, L12.out⟩
            case measure => simp [intOf]; omega
        · obtain rfl : j = k := by omega
          have hsr := HS10.out.below HL.out
          have KG := Lib.hid (refGroups_any j en sec _ wi hsr he1 he2)
          clear hsr
          go_wp2_with fail
          refine KG.out.mono ?_
          rintro e w14 ⟨t, u, g, ht, hall, hor, rfl, hgb, l14⟩
          have L14 := Lib.hid (HL.out.trans (l14.mono HL.out.size))
          obtain ⟨Y, hgd⟩ := hgb.gd
          have hgood : ∀ i, i < j → (chAt T 1 en i ↔ goodN sec en i) := fun i hi => good_iff HT.out.2.1 (HT.out.2.2.2.1 i hi) (HT.out.2.2.2.2.1 i hi)
          have htk : t = kr := first_same (P := fun i => goodN sec en i) hkr (fun i hi => (hgood i (by omega)).1 (HCh.out.1 i hi)) (fun hi q => HCh.out.2 hi ((hgood kr hi).2 q)) ht hall hor
          subst htk
          have hgs : gs = (gN sec t).1 := by
            rw [HGs.out, read_same HT.out.2.1 t (fun i hi => HT.out.2.2.2.1 i (by omega)) hall]
          have hlg := HLg.out w14 (fun b hb1 hb2 => (L14.out.block b (by have := G10.out b hb1 hb2; have q : w8.heap[b]? = some _ := Array.getElem?_eq_getElem hb2; rw [q] at this; exact (Array.getElem?_eq_some_iff.1 this).1)).trans (G10.out b hb1 hb2))
          have KT := Lib.hid (told_any _ _ gs (gN sec t).1 Y w14 hlg hgd)
          rw [show Sm gs (gN sec t).1 = true from decide_eq_true hgs] at KT
          have KLt := Lib.hid (fun W (l : Below w10.heap.size w10 W) => refLatest_any j sec _ W (HS10.out.below l))
          rw [← HLa.out] at KLt
          have HOt := Lib.hid hor
          clear hall hor hgb l14 hgd hgood hgs hlg
          go_wp2_with (first
            | (go_at_call 23; refine KT.out.mono ?_; rintro e w15 ⟨rfl, l15⟩; have L15 := Lib.hid (L14.out.trans (l15.mono L14.out.size)); clear l15)
            | (go_at_call 31; refine (KLt.out _ L15.out).mono ?_; rintro e w16 ⟨rfl, l16⟩; have L16 := Lib.hid (L15.out.trans (l16.mono L15.out.size)); clear l16)
            | (go_at_call 14; refine (lawake_any _).mono ?_; rintro e w17 ⟨rfl, l17⟩))
          go_ret
          exact ⟨rfl, O10.out.b.trans ((L16.out.trans (l17.mono L16.out.size)).mono O10.out.b.size)⟩
theorem logReads_walk (A : Option Addr) (n c : Nat) (X : Nat → SltD) (ep : Int) (w : World) (hX : Slts w A n X) (hep : In64L ep) :
    Calls Try.prog 4 #[.slice A n c, .int .i64 ep] w fun e w' => e = .returned (.bool true) ∧ Below w.heap.size w w' := @logReads_gen ⟨fun _ => True⟩ A n c X ep w hX hep fun _ _ => trivial
end Go.Proofs.Ytmikemijdglgaaa
