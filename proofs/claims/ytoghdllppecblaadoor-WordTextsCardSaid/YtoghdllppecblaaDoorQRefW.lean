/- the document's Words: the walk. -/
import Derived.Test.YtoghdllppecblaaDoorQRefV
import Derived.LoopTactic
namespace Go.Proofs.YtoghdllppecblaaDoor
open Go.RowKit
set_option linter.unusedVariables false
set_option linter.unusedSimpArgs false

set_option maxRecDepth 100000 in
set_option maxHeartbeats 4000000 in
theorem refWords_any (s : List UInt8) (hs : s.length ≤ 100000) (w : World) : Calls Tryd.prog 15 #[.string (mkB s)] w fun e w' => ∃ v, e = .returned v ∧ OwnR w' w.heap.size v (wordsP s) ∧ Below w.heap.size w w' := by
  have HSg := Lib.hid (fun k hk W => refSign_any s hs k hk W)
  have HLen := Lib.hid hs
  have HGo := Lib.hid (words_go s)
  have hsz : (mkB s).size = s.length := mkB_size s
  obtain ⟨S, hS⟩ : ∃ S, S = mkB s := ⟨_, rfl⟩
  rw [← hS] at HSg hsz ⊢
  have HSz := Lib.hid hsz
  clear hS hsz hs
  go_enter Tryd.func15, Tryd.ntmps15
  go_wp2
  go_loopw [3, 4] (fun v a wr => ∃ (p : Nat) (ws : List Wd), a = .int .i64 (p : Int) ∧ p ≤ s.length ∧ OwnR wr w.heap.size v ws ∧ ws.length ≤ p ∧ wordsP s = ws ++ go none (sg p (s.drop p)) ∧ Below w.heap.size w wr) (fun _ a _ => s.length - (intOf a).toNat)
  case atStart => exact ⟨0, [], rfl, by omega, World.ownsRow_nil _ _ _ _, Nat.le_refl _, by rw [HGo.out]; rfl, Below.refl _ _⟩
  case round =>
    obtain ⟨p, ws, rfl, hp, hown, hwl, hgo, hB⟩ := hrel
    have hsz := HSz.out
    have hlen := HLen.out
    by_cases hlt : p < s.length
    · have hpS : (p : Int) < (S.size : Int) := by omega
      obtain ⟨c, n, he, hc, hf, hn⟩ := sgB_sign hlt
      have hK := HSg.out p hlt wr
      rw [he] at hK
      simp only [sgV] at hK
      have hw1 := wd_pos (s.drop p)
      have hw2 := wd_le (len_le hlt)
      rw [← hn, List.length_drop] at hw2
      rw [← hn] at hw1
      have hwp : IntKind.i64.wrap ((p : Int) + (n : Int)) = ((p + n : Nat) : Int) := by rw [IntWalk.i64_in _ (by omega)]; omega
      have HF := Lib.hid (refFold_any c (by omega) wr)
      by_cases hnil : foldL c = []
      · rw [hnil, show mkB [] = ⟨#[]⟩ from rfl] at HF
        have HG := Lib.hid (show wordsP s = ws ++ go none (sg (p + n) (s.drop (p + n))) by rw [hgo, go_skip hlt (by rw [← hf]; exact hnil), ← hn])
        have HB := Lib.hid hB
        have HO := Lib.hid hown
        have HN := Lib.hid (And.intro hlt (And.intro hw1 (And.intro hw2 hwl)))
        have hKK := Lib.hid hK
        clear hsz hlen hp hown hwl hgo hB hlt he hc hf hn hw1 hw2 hnil hK
        go_wp2_with fail
        (with_reducible refine hKK.out.mono ?_); rintro _ w4 ⟨rfl, rfl⟩
        go_wp2_with fail
        (with_reducible refine HF.out.mono ?_); rintro _ w5 ⟨rfl, l5⟩
        have L5 := Lib.hid l5
        clear l5
        go_wp2
        have hN := HN.out
        exact ⟨⟨p + n, ws, rfl, by omega, HO.out.below L5.out, by omega, HG.out, below2' HB.out L5.out⟩, by simp [intOf]; omega⟩
      · have HG := Lib.hid (show wordsP s = ws ++ go (some (⟨[], p, p⟩, false)) (sg p (s.drop p)) by rw [hgo, go_begin hlt (by rw [← hf]; exact hnil)])
        have HNil := Lib.hid (show ¬ foldL (rn (s.drop p)) = [] by rw [← hf]; exact hnil)
        have hemp : (mkB (foldL c)).toList.isEmpty = false := by
          rw [ByteArray.toList_eq]
          unfold mkB
          cases h : foldL c with
          | nil => exact absurd h hnil
          | cons a l => rfl
        obtain ⟨F, hF⟩ : ∃ F, F = mkB (foldL c) := ⟨_, rfl⟩
        rw [← hF] at HF hemp
        have HB := Lib.hid hB
        have HO := Lib.hid hown
        have HN := Lib.hid (And.intro hlt hwl)
        have hKK := Lib.hid hK
        clear hsz hlen hp hown hwl hgo hB hlt he hc hf hn hw1 hw2 hnil hK hF hwp
        go_wp2_with fail
        (with_reducible refine hKK.out.mono ?_); rintro _ w4 ⟨rfl, rfl⟩
        go_wp2_with fail
        (with_reducible refine HF.out.mono ?_); rintro _ w5 ⟨rfl, l5⟩
        have L5 := Lib.hid l5
        clear l5
        go_wp2
        have HO5 := Lib.hid (HO.out.below L5.out)
        have HLt := Lib.hid (fun k (hk : u3.ownBlock = some k) => (own_base HO5.out hk).2)
        go_loopw [4, 8] (fun a fl W => ∃ (q : Nat) (T : List UInt8) (f : Bool), a = .int .i64 (q : Int) ∧ fl = .bool f ∧ p ≤ q ∧ q ≤ s.length ∧ T.length ≤ 32 ∧ wordsP s = ws ++ go (some (⟨T, p, q⟩, f)) (sg q (s.drop q)) ∧ Blk3 W w5.heap.size (.string (mkB T)) (.int .i64 (p : Int)) (.int .i64 0) ∧ Below w5.heap.size w5 W) (fun a _ _ => s.length - (intOf a).toNat)
        case atStart => exact ⟨p, [], false, rfl, rfl, Nat.le_refl _, Nat.le_of_lt HN.out.1, by simp, HG.out, Blk3.made w5 _ _ _, (Below.refl _ w5).alloc (Nat.le_refl _) _⟩
        case round =>
          obtain ⟨q, T, f, rfl, rfl, hpq, hq, hT, hgo, hblk, hB2⟩ := hrel
          have hsz := HSz.out
          have hlen := HLen.out
          by_cases hlt : q < s.length
          · have hqS : (q : Int) < (S.size : Int) := by omega
            obtain ⟨c2, n2, he, hc, hf, hn⟩ := sgB_sign hlt
            have hK := fun W => HSg.out q hlt W
            rw [he] at hK
            simp only [sgV] at hK
            have hw1 := wd_pos (s.drop q)
            have hw2 := wd_le (len_le hlt)
            rw [← hn, List.length_drop] at hw2
            rw [← hn] at hw1
            have hwp : IntKind.i64.wrap ((q : Int) + (n2 : Int)) = ((q + n2 : Nat) : Int) := by rw [IntWalk.i64_in _ (by omega)]; omega
            have HF2 := Lib.hid (fun W => refFold_any c2 (by omega) W)
            have HBlk := Lib.hid hblk
            have HB2 := Lib.hid hB2
            have hKK2 := Lib.hid hK
            by_cases hnil : foldL c2 = []
            · rw [hnil, show mkB [] = ⟨#[]⟩ from rfl] at HF2
              have HG2 := Lib.hid hgo
              have hfn : foldL (rn (s.drop q)) = [] := by rw [← hf]; exact hnil
              have HS := Lib.hid (And.intro hlt hfn)
              have HN2 := Lib.hid (show p < q ∧ q ≤ s.length ∧ 0 ≤ q from ⟨by
                rcases Nat.lt_or_ge p q with h | h
                · exact h
                · have e : q = p := by omega
                  rw [e] at hfn
                  exact absurd hfn HNil.out, hq, by omega⟩)
              clear hsz hlen hpq hq hT hgo hblk hB2 hlt he hc hf hn hw1 hw2 hwp hnil hK hfn
              go_wp2_with fail
              (with_reducible refine (hKK2.out _).mono ?_); rintro _ w6 ⟨rfl, rfl⟩
              go_wp2_with fail
              (with_reducible refine (HF2.out _).mono ?_); rintro _ w7 ⟨rfl, l7⟩
              have B7 := Lib.hid (HBlk.out.below l7)
              have L7 := Lib.hid (below2' HB2.out l7)
              clear l7
              have d0 := B7.out.c0
              have d1 := B7.out.c1
              have d2 := B7.out.c2
              have dz := B7.out.fz
              have HB8 := Lib.hid (show Below w5.heap.size w5 (w7.setCell ⟨w5.heap.size, 2, none⟩ (.int .i64 (q : Int))) from L7.out.setCell (p := ⟨w5.heap.size, 2, none⟩) (by simp) _)
              have HO8 := Lib.hid ((HO5.out.below (L7.out)).set w5.heap.size 2 (.int .i64 (q : Int)) HLt.out)
              have HZ8 := Lib.hid (Nat.le_trans (below2' HB.out L5.out).size HB8.out.size)
              have HWl := Lib.hid (show (ws.length + 1) * 32 ≤ 140737488355328 by have := HN.out; have := HLen.out; omega)
              go_wp2_with (at_builtin; refine wpList_push_word _ rfl _ _ rfl w.heap.size u3 ws ⟨T, p, q⟩ rfl HO8.out _ (by simp) rfl HWl.out HZ8.out ?_; intro v' w8 ho8 hb8; have HO9 := Lib.hid ho8; have HB9 := Lib.hid hb8; clear ho8 hb8)
              exact ⟨⟨q, ws ++ [⟨T, p, q⟩], rfl, HN2.out.2.1, HO9.out, by have := HN.out; have := HN2.out; rw [List.length_append]; simp; omega, by rw [HG2.out, go_stop HS.out.1 HS.out.2, List.append_assoc]; rfl, (below2' HB.out L5.out).trans ((HB8.out.mono (below2' HB.out L5.out).size).trans HB9.out)⟩, by have := HN2.out; simp [intOf]; omega⟩
            · have hemp2 : (mkB (foldL c2)).toList.isEmpty = false := by
                rw [ByteArray.toList_eq]
                unfold mkB
                cases h : foldL c2 with
                | nil => exact absurd h hnil
                | cons a l => rfl
              have hfn : ¬ foldL (rn (s.drop q)) = [] := by rw [← hf]; exact hnil
              have hgm := go_more hlt hfn T p f
              rw [← hf, ← hn] at hgm
              have h4 := fold_len c2
              have hFs : (mkB (foldL c2)).size = (foldL c2).length := mkB_size _
              have hTs : (mkB T).size = T.length := mkB_size _
              obtain ⟨F2, hF2⟩ : ∃ F2, F2 = mkB (foldL c2) := ⟨_, rfl⟩
              rw [← hF2] at HF2 hemp2 hFs
              obtain ⟨Tb, hTb⟩ : ∃ Tb, Tb = mkB T := ⟨_, rfl⟩
              rw [← hTb] at HBlk hTs
              have hwl : IntKind.i64.wrap ((Tb.size : Int) + (F2.size : Int)) = (Tb.size : Int) + (F2.size : Int) := IntWalk.i64_in _ (by omega)
              have hca : ¬ 9223372036854775807 < Tb.size + F2.size := by omega
              have HN2 := Lib.hid (show p ≤ q + n2 ∧ q + n2 ≤ s.length ∧ q < s.length ∧ 1 ≤ n2 from ⟨by omega, by omega, hlt, hw1⟩)
              cases f
              · by_cases hov : 32 < T.length + (foldL c2).length
                · have hcn : cutN T (foldL c2) false = true := by unfold cutN; simp; omega
                  have hgt : (32 : Int) < (Tb.size : Int) + (F2.size : Int) := by omega
                  rw [hcn, if_pos rfl] at hgm
                  have HG2 := Lib.hid (show wordsP s = _ by rw [hgo, hgm])
                  have HT := Lib.hid hT
                  have HTb := Lib.hid hTb
                  clear hsz hlen hpq hq hT hgo hblk hB2 hlt he hc hf hn hw1 hw2 hnil hK hfn hgm h4 hFs hTs hF2 hTb hov hcn hca
                  go_wp2_with fail
                  (with_reducible refine (hKK2.out _).mono ?_); rintro _ w6 ⟨rfl, rfl⟩
                  go_wp2_with fail
                  (with_reducible refine (HF2.out _).mono ?_); rintro _ w7 ⟨rfl, l7⟩
                  have B7 := Lib.hid (HBlk.out.below l7)
                  have L7 := Lib.hid (below2' HB2.out l7)
                  clear l7
                  have d0 := B7.out.c0
                  have dz := B7.out.fz
                  go_wp2
                  have hN2 := HN2.out
                  exact ⟨⟨q + n2, T, true, rfl, rfl, hN2.1, hN2.2.1, HT.out, HG2.out, by rw [← HTb.out]; exact B7.out, L7.out⟩, by simp [intOf]; omega⟩
                · have hcn : cutN T (foldL c2) false = false := by unfold cutN; simp; omega
                  have hgt : decide ((32 : Int) < (Tb.size : Int) + (F2.size : Int)) = false := decide_eq_false (by omega)
                  rw [hcn, if_neg (by simp)] at hgm
                  have HG2 := Lib.hid (show wordsP s = _ by rw [hgo, hgm])
                  have HT := Lib.hid (show (T ++ foldL c2).length ≤ 32 by rw [List.length_append]; omega)
                  have HTb := Lib.hid (show Tb ++ F2 = mkB (T ++ foldL c2) by rw [hTb, hF2, mkB_app])
                  clear hsz hlen hpq hq hT hgo hblk hB2 hlt he hc hf hn hw1 hw2 hnil hK hfn hgm h4 hFs hTs hF2 hTb hov hcn
                  go_wp2_with fail
                  (with_reducible refine (hKK2.out _).mono ?_); rintro _ w6 ⟨rfl, rfl⟩
                  go_wp2_with fail
                  (with_reducible refine (HF2.out _).mono ?_); rintro _ w7 ⟨rfl, l7⟩
                  have B7 := Lib.hid (HBlk.out.below l7)
                  have L7 := Lib.hid (below2' HB2.out l7)
                  clear l7
                  have d0 := B7.out.c0
                  have dz := B7.out.fz
                  go_wp2
                  have hN2 := HN2.out
                  exact ⟨⟨q + n2, T ++ foldL c2, false, rfl, (by first | rfl | rw [hgt]), hN2.1, hN2.2.1, HT.out, HG2.out, by rw [← HTb.out]; exact B7.out.set0 _, L7.out.setCell (p := ⟨w5.heap.size, 0, none⟩) (by simp) _⟩, by simp [intOf]; omega⟩
              · have hcn : cutN T (foldL c2) true = true := rfl
                rw [hcn, if_pos rfl] at hgm
                have HG2 := Lib.hid (show wordsP s = _ by rw [hgo, hgm])
                have HT := Lib.hid hT
                have HTb := Lib.hid hTb
                clear hsz hlen hpq hq hT hgo hblk hB2 hlt he hc hf hn hw1 hw2 hnil hK hfn hgm h4 hFs hTs hF2 hTb hcn hca hwl
                go_wp2_with fail
                (with_reducible refine (hKK2.out _).mono ?_); rintro _ w6 ⟨rfl, rfl⟩
                go_wp2_with fail
                (with_reducible refine (HF2.out _).mono ?_); rintro _ w7 ⟨rfl, l7⟩
                have B7 := Lib.hid (HBlk.out.below l7)
                have L7 := Lib.hid (below2' HB2.out l7)
                clear l7
                have d0 := B7.out.c0
                have dz := B7.out.fz
                go_wp2
                have hN2 := HN2.out
                exact ⟨⟨q + n2, T, true, rfl, rfl, hN2.1, hN2.2.1, HT.out, HG2.out, by rw [← HTb.out]; exact B7.out, L7.out⟩, by simp [intOf]; omega⟩
          · have hqS : ¬ (q : Int) < (S.size : Int) := by omega
            have HG2 := Lib.hid hgo
            have HS := Lib.hid (show s.length ≤ q by omega)
            have HN2 := Lib.hid (show p < q ∧ q ≤ s.length ∧ 0 ≤ q from ⟨by have := HN.out; omega, hq, by omega⟩)
            have B7 := Lib.hid hblk
            have L7 := Lib.hid hB2
            clear hsz hlen hpq hq hT hgo hblk hB2 hlt
            have d0 := B7.out.c0
            have d1 := B7.out.c1
            have d2 := B7.out.c2
            have dz := B7.out.fz
            have HB8 := Lib.hid (show Below w5.heap.size w5 (wr.setCell ⟨w5.heap.size, 2, none⟩ (.int .i64 (q : Int))) from L7.out.setCell (p := ⟨w5.heap.size, 2, none⟩) (by simp) _)
            have HO8 := Lib.hid ((HO5.out.below (L7.out)).set w5.heap.size 2 (.int .i64 (q : Int)) HLt.out)
            have HZ8 := Lib.hid (Nat.le_trans (below2' HB.out L5.out).size HB8.out.size)
            have HWl := Lib.hid (show (ws.length + 1) * 32 ≤ 140737488355328 by have := HN.out; have := HLen.out; omega)
            go_wp2_with (at_builtin; refine wpList_push_word _ rfl _ _ rfl w.heap.size u3 ws ⟨T, p, q⟩ rfl HO8.out _ (by simp) rfl HWl.out HZ8.out ?_; intro v' w8 ho8 hb8; have HO9 := Lib.hid ho8; have HB9 := Lib.hid hb8; clear ho8 hb8)
            exact ⟨⟨q, ws ++ [⟨T, p, q⟩], rfl, HN2.out.2.1, HO9.out, by have := HN.out; have := HN2.out; rw [List.length_append]; simp; omega, by rw [HG2.out, go_end HS.out, List.append_assoc]; rfl, (below2' HB.out L5.out).trans ((HB8.out.mono (below2' HB.out L5.out).size).trans HB9.out)⟩, by have := HN2.out; simp [intOf]; omega⟩
    · have hpS : ¬ (p : Int) < (S.size : Int) := by omega
      have HE := Lib.hid (show wordsP s = ws by rw [hgo, go_done (by omega), List.append_nil])
      have HB := Lib.hid hB
      have HO := Lib.hid hown
      clear hsz hlen hp hown hwl hgo hB hlt
      go_wp2
      go_ret
      exact ⟨_, rfl, by rw [HE.out]; exact HO.out, HB.out⟩
end Go.Proofs.YtoghdllppecblaaDoor
