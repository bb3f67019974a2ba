/- The document's Times: the walk. -/
import Derived.Test.YtoeddhkbifeamaaDoorNTimesM
import Derived.Test.YtoeddhkbifeamaaDoorNLaws
import Derived.Deep.DeepCutAuto
import Derived.Deep.CutRange
import Derived.Deep.CutBlock
import Derived.Deep.LoopGhost
import Derived.BigRegion
import Derived.RegionTactic
import Derived.BigQuiet
import Derived.Deep.QuietTactic
import Derived.WalkLawsBesides
namespace Go.Proofs.YtoeddhkbifeamaaDoor
open Go.RowKit
set_option linter.unusedVariables false

/-- A row of figures that can be read. -/
def DigS (w : World) (v : Value) (k M : Nat) : Prop := ∃ A c, v = .slice A k c ∧ (0 < k → ∃ g, A = some ⟨g, 0, none⟩ ∧ g < w.heap.size ∧ ∀ i, i < k → w.cell? ⟨g, i, none⟩ = some (.int .i64 (dgN M i)))
theorem DigS.of {w : World} {base k M : Nat} {v : Value} (h : w.ownsRow base 3 1 v k (dgL M k)) : DigS w v k M := by
  obtain ⟨hl, ⟨rfl, rfl⟩ | ⟨g, cap, cur, rfl, hb, hg, hn, hc, hs, ht⟩⟩ := h
  · exact ⟨none, 0, rfl, fun h => absurd h (by omega)⟩
  · refine ⟨_, _, rfl, fun _ => ⟨g, rfl, lt_of_block hg, fun i hi => ?_⟩⟩
    rw [cell_of_row w g i _ _ _ hg]
    have h1 : (dgL M k)[i]? = some (.int .i64 (dgN M i)) := by
      unfold dgL
      rw [List.getElem?_map, List.getElem?_range hi]
      rfl
    rw [← ht, List.getElem?_take_of_lt (by omega)] at h1
    simpa using h1
theorem DigS.keep {w w' : World} {v : Value} {k M : Nat} (h : DigS w v k M) (hb : Below w.heap.size w w') : DigS w' v k M := by
  obtain ⟨A, c, rfl, hk⟩ := h
  exact ⟨A, c, rfl, fun h0 => by
    obtain ⟨g, rfl, hg, hc⟩ := hk h0
    exact ⟨g, rfl, Nat.lt_of_lt_of_le hg hb.size, fun i hi => (hb.cell (p := ⟨g, i, none⟩) hg).trans (hc i hi)⟩⟩
theorem arr_start (w : World) : (w.alloc (.cells (Array.replicate 48 (.int .i64 0)) 55)).rowIs w.heap.size 55 48 (fun _ => .int .i64 0) := by
  have h := World.rowIs_alloc w (Array.replicate 48 (.int .i64 0)) 55 (fun _ => .int .i64 0) (fun i hi => by
    rw [Array.size_replicate] at hi
    rw [Array.getElem?_replicate, if_pos hi])
  rwa [Array.size_replicate] at h
theorem app_data2 (s : ByteArray) (l : Array UInt8) : (s ++ ⟨l⟩).data.toList = s.data.toList ++ l.toList := by simp
def ArrF (w : World) (b : Nat) (F : Nat → Nat) : Prop := w.rowIs b 55 48 (fun i => .int .i64 (F i))
set_option maxHeartbeats 8000000 in
set_option maxRecDepth 100000 in
theorem refTimes_good (a b : Int) (w : World) (ha : heldB a = true) (hb : heldB b = true) :
    Calls Tryd.prog 19 #[.int .i64 a, .int .i64 b] w fun e w' => e = .returned (.tuple #[.int .i64 (timesV a b), .int .i64 (timesE a b)]) ∧ Below w.heap.size w w' := by
  obtain ⟨a1, a2⟩ := heldB_yes ha
  obtain ⟨b1, b2⟩ := heldB_yes hb
  obtain ⟨X, hX⟩ : ∃ X, X = a.natAbs := ⟨_, rfl⟩
  obtain ⟨Y, hY⟩ : ∃ Y, Y = b.natAbs := ⟨_, rfl⟩
  have C1 := Lib.hid fun W => held_at a true ha W
  have C2 := Lib.hid fun W => held_at b true hb W
  have D1 := Lib.hid fun W => digits_gen a X W (by omega) (by omega)
  have D2 := Lib.hid fun W => digits_gen b Y W (by omega) (by omega)
  have HX := Lib.hid (And.intro hX hY)
  have HAB := Lib.hid (And.intro ha hb)
  clear ha hb hX hY
  go_enter Tryd.func19, Tryd.ntmps19
  go_wp2_with fail
  refine (C1.out _).mono ?_
  rintro _ _ ⟨rfl, rfl⟩
  go_wp2_with fail
  refine (C2.out _).mono ?_
  rintro _ _ ⟨rfl, rfl⟩
  go_wp2_with fail
  refine (D1.out _).mono ?_
  rintro _ w1 ⟨v1, n1, rfl, hn1, hX1, ho1, l1⟩
  have S1 := Lib.hid (DigS.of ho1)
  have L1 := Lib.hid l1
  clear ho1 l1
  go_wp2_with fail
  refine (D2.out _).mono ?_
  rintro _ w2 ⟨v2, n2, rfl, hn2, hY1, ho2, l2⟩
  have S2 := Lib.hid (DigS.of ho2)
  have S3 := Lib.hid (S1.out.keep l2)
  have L2 := Lib.hid (L1.out.trans (l2.mono L1.out.size))
  have hsz2 := L2.out.size
  clear ho2 l2 S1 L1
  go_wp2_with fail
  obtain ⟨A1, c1, rfl, K1⟩ := S3.out
  obtain ⟨A2, c2, rfl, K2⟩ := S2.out
  have HK1 := Lib.hid K1
  have HK2 := Lib.hid K2
  have HX1 := Lib.hid hX1
  have HY1 := Lib.hid hY1
  clear K1 K2 S3 S2 hX1 hY1 D1 D2 C1 C2
  go_loopw [9] (fun i wr => ∃ (k : Nat) (F : Nat → Nat), i = .int .i64 k ∧ k ≤ n1 ∧ ArrF wr w2.heap.size F ∧ sumV F 48 = (X % 10 ^ k) * Y ∧ (∀ t, F t ≤ 1539 * k) ∧ Below w2.heap.size w2 wr) (fun i _ => n1 - (intOf i).toNat)
  case atStart =>
    refine ⟨0, fun _ => 0, rfl, by omega, arr_start w2, ?_, fun _ => Nat.zero_le _, (Below.refl _ _).alloc (Nat.le_refl _) _⟩
    rw [sum_zero, Nat.pow_zero, Nat.mod_one, Nat.zero_mul]
  case round =>
    obtain ⟨i, F0, rfl, hi, hF0, hs0, hb0, hbel0⟩ := hrel
    obtain ⟨wo, hwo⟩ : ∃ wo, wo = wr := ⟨_, rfl⟩
    subst hwo
    have HF0 := Lib.hid hF0
    have HS0 := Lib.hid hs0
    have HB0 := Lib.hid hb0
    have HL0 := Lib.hid hbel0
    clear hF0 hs0 hb0 hbel0
    by_cases hlt : i < n1
    · obtain ⟨g1, rfl, hg1, hx⟩ := HK1.out (by omega)
      have hxi := hx i hlt
      obtain ⟨p, hp⟩ : ∃ p, p = dgN X i := ⟨_, rfl⟩
      have hp9 : p < 10 := by rw [hp]; exact dgN_lt _ _
      have HP := Lib.hid hp
      rw [← hp] at hxi
      have hliI : (i : Int) < n1 := by omega
      have hnI : (n1 : Int) ≤ 19 := by omega
      have HXI := Lib.hid hxi
      clear hp hx hxi
      go_wp2_with fail
      go_loopw [10] (fun j wr => ∃ (k : Nat) (F : Nat → Nat), j = .int .i64 k ∧ k ≤ n2 ∧ ArrF wr w2.heap.size F ∧ sumV F 48 = (X % 10 ^ i) * Y + p * 10 ^ i * (Y % 10 ^ k) ∧ (∀ t, F t ≤ 1539 * i + 81 * k) ∧ Below w2.heap.size w2 wr) (fun j _ => n2 - (intOf j).toNat)
      case atStart =>
        refine ⟨0, F0, rfl, by omega, HF0.out, ?_, fun t => by have := HB0.out t; omega, HL0.out⟩
        rw [HS0.out, Nat.pow_zero, Nat.mod_one, Nat.mul_zero, Nat.add_zero]
      case round =>
        obtain ⟨k, F, rfl, hk, hF, hs, hb, hbel⟩ := hrel
        have HS := Lib.hid hs
        have HB := Lib.hid hb
        have HL := Lib.hid hbel
        by_cases hlk : k < n2
        · obtain ⟨g2, rfl, hg2, hy⟩ := HK2.out (by omega)
          have hyk := hy k hlk
          obtain ⟨q, hq⟩ : ∃ q, q = dgN Y k := ⟨_, rfl⟩
          have hq9 : q < 10 := by rw [hq]; exact dgN_lt _ _
          have HQ := Lib.hid hq
          rw [← hq] at hyk
          obtain ⟨f, hf⟩ : ∃ f, f = F (i + k) := ⟨_, rfl⟩
          have hf4 : f ≤ 31000 := by rw [hf]; have := hb (i + k); omega
          have hc0 : wr.cell? ⟨w2.heap.size, i + k, none⟩ = some (.int .i64 f) := by rw [hf]; exact hF.cell (by omega)
          have hz0 : wr.frozen? ⟨w2.heap.size, i + k, none⟩ = false := hF.frozen _
          have hc1 : wr.cell? ⟨g1, i, none⟩ = some (.int .i64 p) := (hbel.cell (p := ⟨g1, i, none⟩) hg1).trans HXI.out
          have hc2 : wr.cell? ⟨g2, k, none⟩ = some (.int .i64 q) := (hbel.cell (p := ⟨g2, k, none⟩) hg2).trans hyk
          have HF := Lib.hid hf
          have HFF := Lib.hid hF
          have ek : ((i : Int) + (k : Int)).toNat = i + k := by omega
          have hpq : p * q ≤ 81 := Nat.mul_le_mul (by omega : p ≤ 9) (by omega : q ≤ 9)
          obtain ⟨z, hz⟩ : ∃ z, z = p * q := ⟨_, rfl⟩
          have hzI : (p : Int) * (q : Int) = (z : Int) := by rw [hz]; exact (Int.natCast_mul p q).symm
          rw [← hz] at hpq
          have HZ := Lib.hid hz
          have w1' : IntKind.i64.wrap ((i : Int) + k) = (i : Int) + k := IntWalk.i64_in _ (by omega)
          have w2' : IntKind.i64.wrap ((p : Int) * q) = (z : Int) := by rw [hzI]; exact IntWalk.i64_in _ (by omega)
          have w3' : IntKind.i64.wrap ((f : Int) + z) = (f : Int) + z := IntWalk.i64_in _ (by omega)
          have b1 : 0 ≤ (i : Int) + k := by omega
          have b2 : (i : Int) + k < 48 := by omega
          have b3 : (i : Nat) + k < 48 := by omega
          clear hf hq hF hb hbel hs hy hz
          go_wp2
          go_region
          have HN : Hid (ArrF ((wr.setCell ⟨w2.heap.size, i + k, none⟩ (.int .i64 ((f : Int) + z))).drew) w2.heap.size (updF F (i + k) (F (i + k) + z))) := Lib.hid ((World.rowIs.drew (HFF.out.set (i + k) (.int .i64 ((f : Int) + z)))).congr fun j _ => by
            show (if j = i + k then Value.int .i64 ((f : Int) + z) else .int .i64 (F j)) = .int .i64 ((updF F (i + k) (F (i + k) + z) j : Nat) : Int)
            unfold updF
            by_cases e : j = i + k
            · rw [if_pos e, if_pos e, HF.out, Int.natCast_add]
            · rw [if_neg e, if_neg e])
          have HL2 : Hid (Below w2.heap.size w2 ((wr.setCell ⟨w2.heap.size, i + k, none⟩ (.int .i64 ((f : Int) + z))).drew)) := Lib.hid ((HL.out.setCell (p := ⟨w2.heap.size, i + k, none⟩) (Nat.le_refl _) _).drew)
          have HSN := Lib.hid (show sumV (updF F (i + k) (F (i + k) + z)) 48 = (X % 10 ^ i) * Y + p * 10 ^ i * (Y % 10 ^ (k + 1)) by
            rw [sum_add F (i + k) z 48 b3, HS.out, mod_next, ← HQ.out, HZ.out, Nat.pow_add, Nat.mul_add, Nat.add_assoc]
            congr 2
            rw [Nat.mul_assoc, Nat.mul_assoc, ← Nat.mul_assoc q, Nat.mul_comm q, Nat.mul_assoc, Nat.mul_comm q])
          have HBN := Lib.hid (show ∀ t, updF F (i + k) (F (i + k) + z) t ≤ 1539 * i + 81 * (k + 1) from fun t => by
            unfold updF
            have h1 := HB.out t
            have h2 := HB.out (i + k)
            split <;> omega)
          clear w1' w2' w3' hc0 hz0 hc1 hc2 hyk hzI ek
          go_wp2
          go_roundw
          case rel => exact ⟨k + 1, updF F (i + k) (F (i + k) + z), by go_num, by omega, HN.out, HSN.out, HBN.out, HL2.out⟩
          case measure => simp [intOf]; omega
        · obtain rfl : k = n2 := by omega
          have hnl : ¬ ((k : Int) < (k : Int)) := by omega
          have HS9 := Lib.hid (show sumV F 48 = (X % 10 ^ (i + 1)) * Y by
            rw [HS.out, Nat.mod_eq_of_lt HY1.out, mod_next, ← HP.out, Nat.add_mul])
          have HB9 := Lib.hid (show ∀ t, F t ≤ 1539 * (i + 1) from fun t => by have := HB.out t; omega)
          have HFF := Lib.hid hF
          clear hF hs hb hbel
          go_wp2
          go_roundw
          case rel => exact ⟨i + 1, F, by go_num, by omega, HFF.out, HS9.out, HB9.out, HL.out⟩
          case measure => simp [intOf]; omega
    · obtain rfl : i = n1 := by omega
      have hnl : ¬ ((i : Int) < (i : Int)) := by omega
      obtain ⟨P, hP⟩ : ∃ P, P = X * Y := ⟨_, rfl⟩
      have HSP := Lib.hid (show sumV F0 48 = P by rw [HS0.out, Nat.mod_eq_of_lt HX1.out, hP])
      have HPP := Lib.hid hP
      have HBB := Lib.hid (show ∀ t, F0 t ≤ 29322 from fun t => by have := HB0.out t; omega)
      clear hP
      have HTE := Lib.hid (show timesE a b = (if P % 10000000 = 0 then numE (P / 10000000) else 12) by
        unfold timesE timesP
        rw [if_pos ⟨HAB.out.1, HAB.out.2⟩, ← HX.out.1, ← HX.out.2, ← HPP.out])
      have HTV := Lib.hid (show timesV a b = (if P % 10000000 = 0 then numV (P / 10000000) (decide (a < 0) != decide (b < 0)) else 0) by
        unfold timesV timesP
        rw [if_pos ⟨HAB.out.1, HAB.out.2⟩, ← HX.out.1, ← HX.out.2, ← HPP.out])
      have HP38 := Lib.hid (show P < 10 ^ 47 by
        have h1 : X ≤ 9000000000000000000 := by have := HX.out.1; omega
        have h2 : Y ≤ 9000000000000000000 := by have := HX.out.2; omega
        have h3 : X * Y ≤ 9000000000000000000 * 9000000000000000000 := Nat.mul_le_mul h1 h2
        have h4 : 9000000000000000000 * 9000000000000000000 < 10 ^ 47 := by decide
        rw [HPP.out]
        omega)
      go_wp2_with fail
      go_loopw [11] (fun j wr => ∃ (k : Nat) (F : Nat → Nat), j = .int .i64 k ∧ k ≤ 47 ∧ ArrF wr w2.heap.size F ∧ sumV F 48 = P ∧ (∀ t, t < k → F t < 10) ∧ (∀ t, F t ≤ 33000) ∧ (∀ t, k < t → F t ≤ 29322) ∧ Below w2.heap.size w2 wr) (fun j _ => 47 - (intOf j).toNat)
      case atStart => exact ⟨0, F0, rfl, by omega, HF0.out, HSP.out, fun t h => absurd h (by omega), fun t => by have := HBB.out t; omega, fun t _ => HBB.out t, HL0.out⟩
      case round =>
        obtain ⟨k, F, rfl, hk, hF, hs, hd, h33, h29, hbel⟩ := hrel
        have HF := Lib.hid hF
        have HS := Lib.hid hs
        have HD := Lib.hid hd
        have H33 := Lib.hid h33
        have H29 := Lib.hid h29
        have HL := Lib.hid hbel
        clear hF hs hd h33 h29 hbel
        by_cases hk47 : k < 47
        · obtain ⟨f, hf⟩ : ∃ f, f = F k := ⟨_, rfl⟩
          obtain ⟨h, hh⟩ : ∃ h, h = F (k + 1) := ⟨_, rfl⟩
          have hf3 : f ≤ 33000 := by rw [hf]; exact H33.out k
          have hh3 : h ≤ 29322 := by rw [hh]; exact H29.out (k + 1) (by omega)
          have c0 : wr.cell? ⟨w2.heap.size, k, none⟩ = some (.int .i64 f) := by rw [hf]; exact HF.out.cell (by omega)
          have c1' : wr.cell? ⟨w2.heap.size, k + 1, none⟩ = some (.int .i64 h) := by rw [hh]; exact HF.out.cell (by omega)
          have z0 : wr.frozen? ⟨w2.heap.size, k + 1, none⟩ = false := HF.out.frozen _
          obtain ⟨e, he⟩ : ∃ e, e = f / 10 := ⟨_, rfl⟩
          obtain ⟨r, hr⟩ : ∃ r, r = f % 10 := ⟨_, rfl⟩
          have he3 : e ≤ 3300 := by omega
          have hr9 : r < 10 := by omega
          have hfer : f = 10 * e + r := by omega
          have i1 : (f : Int) / 10 = (e : Int) := by omega
          have i2 : (f : Int) % 10 = (r : Int) := by omega
          have i3 : IntKind.i64.wrap ((f : Int).tdiv 10) = (e : Int) := by rw [Int.tdiv_eq_ediv_of_nonneg (by omega), i1]; exact IntWalk.i64_in _ (by omega)
          have i4 : (f : Int).tmod 10 = (r : Int) := by rw [Int.tmod_eq_emod_of_nonneg (by omega), i2]
          have i5 : IntKind.i64.wrap ((h : Int) + e) = (h : Int) + e := IntWalk.i64_in _ (by omega)
          have i6 : IntKind.i64.wrap ((k : Int) + 1) = (k : Int) + 1 := IntWalk.i64_in _ (by omega)
          have i7 : ((k : Int) + 1).toNat = k + 1 := by omega
          have b1' : 0 ≤ (k : Int) + 1 := by omega
          have b2' : (k : Int) + 1 < 48 := by omega
          have b3' : (k : Nat) + 1 < 48 := by omega
          have b4' : (k : Int) < 48 := by omega
          have b5' : (k : Nat) < 48 := by omega
          have hkI : (k : Int) < 47 := by omega
          have HFH := Lib.hid (And.intro hf (And.intro hh hfer))
          have HER := Lib.hid (And.intro he3 (And.intro hr9 (And.intro hf3 hh3)))
          clear hf hh hfer he hr
          go_wp2
          go_region
          obtain ⟨Wn, hWn⟩ : ∃ Wn, Wn = (wr.setCell ⟨w2.heap.size, k + 1, none⟩ (.int .i64 ((h : Int) + e))).drew := ⟨_, rfl⟩
          rw [← hWn]
          have hF1 : ArrF Wn w2.heap.size (updF F (k + 1) (h + e)) := by
            rw [hWn]
            refine (World.rowIs.drew (HF.out.set (k + 1) (.int .i64 ((h : Int) + e)))).congr fun j _ => ?_
            show (if j = k + 1 then Value.int .i64 ((h : Int) + e) else .int .i64 (F j)) = .int .i64 ((updF F (k + 1) (h + e) j : Nat) : Int)
            unfold updF
            by_cases q : j = k + 1
            · rw [if_pos q, if_pos q, Int.natCast_add]
            · rw [if_neg q, if_neg q]
          have hL1 : Below w2.heap.size w2 Wn := by rw [hWn]; exact (HL.out.setCell (p := ⟨w2.heap.size, k + 1, none⟩) (Nat.le_refl _) _).drew
          have d0 : Wn.cell? ⟨w2.heap.size, k, none⟩ = some (.int .i64 f) := by
            have := hF1.cell (i := k) (by omega)
            rw [this]
            show some (Value.int .i64 ((updF F (k + 1) (h + e) k : Nat) : Int)) = _
            unfold updF
            rw [if_neg (by omega), HFH.out.1]
          have z1 : Wn.frozen? ⟨w2.heap.size, k, none⟩ = false := hF1.frozen _
          have HF1 := Lib.hid hF1
          have HL1 := Lib.hid hL1
          clear hWn hF1 hL1 c0 c1' z0 i3 i5 i1
          go_wp2
          have HN : Hid (ArrF (Wn.setCell ⟨w2.heap.size, k, none⟩ (.int .i64 (r : Int))) w2.heap.size (updF (updF F (k + 1) (h + e)) k r)) := Lib.hid ((HF1.out.set k (.int .i64 (r : Int))).congr fun j _ => by
            show (if j = k then Value.int .i64 (r : Int) else .int .i64 ((updF F (k + 1) (h + e) j : Nat) : Int)) = .int .i64 ((updF (updF F (k + 1) (h + e)) k r j : Nat) : Int)
            by_cases q : j = k
            · rw [if_pos q]; unfold updF; rw [if_pos q]
            · rw [if_neg q]
              have : updF (updF F (k + 1) (h + e)) k r j = updF F (k + 1) (h + e) j := by
                show (if j = k then r else _) = _
                rw [if_neg q]
              rw [this])
          have HSN := Lib.hid (show sumV (updF (updF F (k + 1) (h + e)) k r) 48 = P by
            have s1 := sum_add F (k + 1) e 48 (by omega)
            rw [← HFH.out.2.1] at s1
            have s2 := sum_upd (updF F (k + 1) (h + e)) k r 48 (by omega)
            have s3 : updF F (k + 1) (h + e) k = f := by
              unfold updF
              rw [if_neg (by omega), HFH.out.1]
            rw [s3, s1, HS.out] at s2
            have s4 : f * 10 ^ k = e * 10 ^ (k + 1) + r * 10 ^ k := by
              have s5 : e * 10 ^ (k + 1) = 10 * e * 10 ^ k := by rw [Nat.pow_succ, Nat.mul_comm (10 ^ k) 10, ← Nat.mul_assoc, Nat.mul_comm e 10]
              rw [s5, ← Nat.add_mul, ← HFH.out.2.2]
            omega)
          have HDN := Lib.hid (show ∀ t, t < k + 1 → updF (updF F (k + 1) (h + e)) k r t < 10 from fun t ht => by
            show (if t = k then r else (if t = k + 1 then h + e else F t)) < 10
            by_cases q : t = k
            · rw [if_pos q]; exact HER.out.2.1
            · rw [if_neg q, if_neg (by omega)]; exact HD.out t (by omega))
          have H33N := Lib.hid (show ∀ t, updF (updF F (k + 1) (h + e)) k r t ≤ 33000 from fun t => by
            show (if t = k then r else (if t = k + 1 then h + e else F t)) ≤ 33000
            have q1 := HER.out
            have q2 := H33.out t
            split
            · omega
            · split <;> omega)
          have H29N := Lib.hid (show ∀ t, k + 1 < t → updF (updF F (k + 1) (h + e)) k r t ≤ 29322 from fun t ht => by
            show (if t = k then r else (if t = k + 1 then h + e else F t)) ≤ 29322
            rw [if_neg (by omega), if_neg (by omega)]
            exact H29.out t (by omega))
          have HL2 : Hid (Below w2.heap.size w2 (Wn.setCell ⟨w2.heap.size, k, none⟩ (.int .i64 (r : Int)))) := Lib.hid (HL1.out.setCell (p := ⟨w2.heap.size, k, none⟩) (Nat.le_refl _) _)
          go_roundw
          case rel => exact ⟨k + 1, updF (updF F (k + 1) (h + e)) k r, by go_num, by omega, HN.out, HSN.out, HDN.out, H33N.out, H29N.out, HL2.out⟩
          case measure => simp [intOf]; omega
        · obtain rfl : k = 47 := by omega
          have HG := Lib.hid (show ∀ t, t < 48 → F t = dgN P t from fun t ht => by
            have h47 : F 47 < 10 := by
              have h1 := sum_ge F 47 48 (by omega)
              rw [HS.out] at h1
              have h2 := HP38.out
              rcases Nat.lt_or_ge (F 47) 10 with q | q
              · exact q
              · have h3 : 10 * 10 ^ 47 ≤ F 47 * 10 ^ 47 := Nat.mul_le_mul_right _ q
                omega
            have := sum_dg F t 48 ht fun u hu => by
              rcases Nat.lt_or_ge u 47 with q | q
              · exact HD.out u q
              · have : u = 47 := by omega
                rw [this]; exact h47
            rw [HS.out] at this
            exact this.symm)
          have HFG : Hid (ArrF wr w2.heap.size (dgN P)) := Lib.hid (HF.out.congr fun t ht => by rw [HG.out t ht])
          go_wp2_with fail
          go_loop [12] (fun j => ∃ k : Nat, j = .int .i64 k ∧ k ≤ 7 ∧ ∀ t, t < k → dgN P t = 0) (fun j => 7 - (intOf j).toNat)
          case atStart => exact ⟨0, rfl, by omega, fun t h => absurd h (by omega)⟩
          case round =>
            obtain ⟨k, rfl, hk7, hz⟩ := hrel
            have HZ := Lib.hid hz
            clear hz
            by_cases hlt7 : k < 7
            · have c0 : wr.cell? ⟨w2.heap.size, k, none⟩ = some (.int .i64 (dgN P k)) := HFG.out.cell (by omega)
              obtain ⟨d, hd⟩ : ∃ d, d = dgN P k := ⟨_, rfl⟩
              rw [← hd] at c0
              have HD7 := Lib.hid hd
              have hkI : (k : Int) < 7 := by omega
              clear hd
              by_cases hd0 : d = 0
              · have t1 : ((d : Int) != 0) = false := by rw [hd0]; rfl
                have HN := Lib.hid (show ∀ t, t < k + 1 → dgN P t = 0 from fun t ht => by
                  by_cases q : t = k
                  · rw [q, ← HD7.out, hd0]
                  · exact HZ.out t (by omega))
                clear hd0
                go_wp2
                go_round
                case rel => exact ⟨k + 1, by go_num, by omega, HN.out⟩
                case measure => simp [intOf]; omega
              · have t1 : ((d : Int) != 0) = true := by simp; omega
                have hP7 : ¬ P % 10000000 = 0 := fun h => hd0 (by rw [HD7.out]; exact dg_zero P h k hlt7)
                have HV1 := Lib.hid (HTE.out.trans (if_neg hP7))
                have HV2 := Lib.hid (HTV.out.trans (if_neg hP7))
                have HLX := Lib.hid (L2.out.trans (HL.out.mono hsz2))
                clear hd0 hP7
                go_wp2
                go_ret2
                exact ⟨ret_ii HV2.out.symm HV1.out.symm, HLX.out⟩
            · obtain rfl : k = 7 := by omega
              have hP7 : P % 10000000 = 0 := dg_all P 7 HZ.out
              obtain ⟨N, hN⟩ : ∃ N, N = P / 10000000 := ⟨_, rfl⟩
              have HTE2 := Lib.hid (show timesE a b = numE N by rw [hN]; exact HTE.out.trans (if_pos hP7))
              have HTV2 := Lib.hid (show timesV a b = numV N (decide (a < 0) != decide (b < 0)) by rw [hN]; exact HTV.out.trans (if_pos hP7))
              have HNP := Lib.hid hN
              clear hP7 hN
              go_wp2_with fail
              obtain ⟨wz, hwz⟩ : ∃ wz, wz = wr := ⟨_, rfl⟩
              subst hwz
              go_loopw [13, 14] (fun s i wr => ∃ (j : Nat) (S : ByteArray), j ≤ 41 ∧ s = .string S ∧ i = .int .i64 (47 - (j : Int)) ∧ S.data.toList = figL P j ∧ ArrF wr w2.heap.size (dgN P) ∧ Below w2.heap.size w2 wr) (fun _ i _ => (intOf i).toNat)
              case atStart => exact ⟨0, ⟨#[]⟩, by omega, rfl, rfl, rfl, HFG.out, HL.out⟩
              case round =>
                obtain ⟨j, S, hj, rfl, rfl, hS, hFj, hLj⟩ := hrel
                have hSs : S.size = j := by rw [← size_list, hS, figL_len]
                have HSJ := Lib.hid hS
                have HFJ := Lib.hid hFj
                have HLJ := Lib.hid hLj
                clear hS hFj hLj
                by_cases hj41 : j < 41
                · obtain ⟨n, hn⟩ : ∃ n, n = 47 - j := ⟨_, rfl⟩
                  have hnI : 47 - (j : Int) = (n : Int) := by omega
                  have hn7 : (7 : Int) ≤ n := by omega
                  have hn48 : (n : Int) < 48 := by omega
                  have hn48N : n < 48 := by omega
                  have HNJ := Lib.hid hn
                  have c0 : wr.cell? ⟨w2.heap.size, n, none⟩ = some (.int .i64 (dgN P n)) := HFJ.out.cell hn48N
                  obtain ⟨d, hd⟩ : ∃ d, d = dgN P n := ⟨_, rfl⟩
                  have hd10 : d < 10 := by rw [hd]; exact dgN_lt _ _
                  rw [← hd] at c0
                  have HDJ := Lib.hid hd
                  have hx := ten_cut d hd10
                  obtain ⟨Xb, hXb⟩ : ∃ Xb : ByteArray, Xb = ⟨#[UInt8.ofNat (48 + d)]⟩ := ⟨_, rfl⟩
                  rw [← hXb] at hx
                  have hXs : Xb.size = 1 := by rw [hXb]; rfl
                  have HXB := Lib.hid hXb
                  have d9 : (d : Int) ≤ 9 := by omega
                  have hSb : S.size ≤ 41 := by omega
                  have x1 : IntKind.i64.wrap ((d : Int) + 1) = (d : Int) + 1 := IntWalk.i64_in _ (by omega)
                  have x2 : ((d : Int) + 1).toNat = d + 1 := by omega
                  have HJ := Lib.hid hj41
                  rw [hnI]
                  clear hd hXb hn hnI hSs hj41 hj
                  go_wp2
                  go_quiet (fail)
                  go_wp2
                  go_roundw
                  case rel =>
                    have q1 := HNJ.out
                    have q2 := HJ.out
                    refine ⟨j + 1, S ++ Xb, by omega, rfl, by congr 1; omega, ?_, HFJ.out, below_draws HLJ.out _⟩
                    rw [figL_next, ← HSJ.out, ← q1, ← HDJ.out, HXB.out, app_data2]
                  case measure => simp [intOf]; omega
                · obtain rfl : j = 41 := by omega
                  have hnI : (47 : Int) - ((41 : Nat) : Int) = 6 := by omega
                  rw [hnI]
                  have HLW := Lib.hid (L2.out.trans (HLJ.out.mono hsz2))
                  have HSV := Lib.hid (show valL S.data.toList = N by
                    rw [HSJ.out, figL_val P (Nat.lt_trans HP38.out (by decide)) 41 (by omega), HNP.out])
                  have HSF := Lib.hid (show Figs S.data.toList by rw [HSJ.out]; exact figL_figs P 41)
                  clear hnI hj41 hj
                  go_wp2_with fail
                  go_loop [13] (fun s => ∃ T : ByteArray, s = .string T ∧ 19 ≤ T.size ∧ T.size ≤ 41 ∧ Figs T.data.toList ∧ valL T.data.toList = N) (fun s => Lib.strSize s)
                  case atStart => exact ⟨S, rfl, by omega, by omega, HSF.out, HSV.out⟩
                  case round =>
                    obtain ⟨T, rfl, hT1, hT2, hTf, hTv⟩ := hrel
                    have hTF := Lib.hid hTf
                    have hTV := Lib.hid hTv
                    clear hTf hTv
                    by_cases hT20 : 19 < T.size
                    · have hI : (19 : Int) < T.size := by omega
                      have h0T : 0 < T.size := by omega
                      have hcons : T.data.toList = T[0] :: (T.extract 1 T.size).data.toList := by
                        rw [Lib.extract_data, List.take_of_length_le (by rw [List.length_drop]; simp)]
                        have := List.drop_eq_getElem_cons (l := T.data.toList) (i := 0) (by simpa using h0T)
                        rw [byteOf T 0 h0T] at this
                        simpa using this
                      have hxs := Lib.hid (show (T.extract 1 T.size).size = T.size - 1 by rw [ByteArray.size_extract]; omega)
                      by_cases hc : (T[0]'h0T).toNat = 48
                      · have t1 : ((((T[0]'h0T).toNat : Nat) : Int) != 48) = false := by rw [hc]; rfl
                        have HN1 := Lib.hid (show Figs (T.extract 1 T.size).data.toList ∧ valL (T.extract 1 T.size).data.toList = N by
                          have h1 := hTF.out
                          have h2 := hTV.out
                          rw [hcons] at h1 h2
                          refine ⟨fun c hc2 => h1 c (List.mem_cons_of_mem _ hc2), ?_⟩
                          rw [valL_cons, hc] at h2
                          simpa using h2)
                        clear hc hcons
                        go_wp2
                        go_round
                        case rel => exact ⟨T.extract 1 T.size, rfl, by rw [hxs.out]; omega, by rw [hxs.out]; omega, HN1.out.1, HN1.out.2⟩
                        case measure => simp only [Lib.strSize_string]; have := hxs.out; omega
                      · have t1 : ((((T[0]'h0T).toNat : Nat) : Int) != 48) = true := by simp; omega
                        have hbig : ¬ N ≤ 9000000000000000000 := by
                          have h1 := valL_ge T[0] (T.extract 1 T.size).data.toList (hTF.out.at 0 h0T) (fun h => hc (by rw [h]; rfl))
                          rw [← hcons, hTV.out, size_list, hxs.out] at h1
                          have h2 : (10 : Nat) ^ 19 ≤ 10 ^ (T.size - 1) := Nat.pow_le_pow_right (by omega) (by omega)
                          have h3 : (10 : Nat) ^ 19 = 10000000000000000000 := by decide
                          omega
                        have HV1 := Lib.hid (show timesE a b = 12 by rw [HTE2.out]; exact if_neg hbig)
                        have HV2 := Lib.hid (show timesV a b = 0 by rw [HTV2.out]; exact if_neg hbig)
                        clear hc hcons hbig
                        go_wp2
                        go_ret2
                        exact ⟨ret_ii HV2.out.symm HV1.out.symm, HLW.out⟩
                    · have hI : ¬ (19 : Int) < T.size := by omega
                      have hT19x : T.size = 19 := by omega
                      have HT19 := Lib.hid hT19x
                      clear hT20 hT1 hT2
                      have hlm : T.data.toList.length = maxL.length := by rw [size_list]; exact hT19x
                      have hless := less_val T.data.toList maxL hTF.out max_figs hlm
                      rw [hTV.out, max_val] at hless
                      have tl : T.toList = T.data.toList := Lib.toList_data T
                      rcases Nat.lt_trichotomy N 9000000000000000000 with hN | hN | hN
                      · have g1 : Op.bytesLess T.toList [57, 48, 48, 48, 48, 48, 48, 48, 48, 48, 48, 48, 48, 48, 48, 48, 48, 48, 48] = true := by rw [tl]; exact hless.trans (decide_eq_true hN)
                        have HLE := Lib.hid (show N ≤ 9000000000000000000 by omega)
                        clear hless tl hlm hN hT19x
                        go_wp2_with fail
                        clear g1
                        go_loop [15, 16] (fun n i => ∃ k : Nat, k ≤ 19 ∧ i = .int .i64 k ∧ n = .int .i64 (valL (T.data.toList.take k))) (fun _ i => 19 - (intOf i).toNat)
                        case atStart => exact ⟨0, by omega, rfl, rfl⟩
                        case round =>
                          obtain ⟨k, hk, rfl, rfl⟩ := hrel
                          have hTI : (T.size : Int) = 19 := by rw [HT19.out]; rfl
                          by_cases hk19 : k < 19
                          · have hlt : k < T.size := by rw [HT19.out]; exact hk19
                            have hff := fig_yes (hTF.out.at k hlt)
                            have HS := Lib.hid (show valL (T.data.toList.take (k + 1)) = 10 * valL (T.data.toList.take k) + ((T[k]'hlt).toNat - 48) by rw [take_snoc T k hlt, valL_snoc])
                            have hm : valL (T.data.toList.take (k + 1)) ≤ 9000000000000000000 := by
                              have h1 := valL_take T.data.toList (k + 1)
                              rw [hTV.out] at h1
                              exact Nat.le_trans h1 HLE.out
                            obtain ⟨v, hv⟩ : ∃ v, v = valL (T.data.toList.take k) := ⟨_, rfl⟩
                            obtain ⟨r, hr⟩ : ∃ r, r = (T[k]'hlt).toNat := ⟨_, rfl⟩
                            have hx : ((T[k]'hlt).toNat : Int) = (r : Int) := by rw [hr]
                            rw [← hr] at hff HS
                            rw [← hv] at HS ⊢
                            rw [HS.out] at hm
                            have hr1 : (48 : Int) ≤ r := by omega
                            have hr2 : (r : Int) ≤ 57 := by omega
                            have hm2 : (v : Int) ≤ 900000000000000000 := by omega
                            have hm3 : 10 * (v : Int) + ((r : Int) - 48) ≤ 9000000000000000000 := by omega
                            have hkI : (k : Int) < 19 := by omega
                            clear hff hm hr hv
                            go_wp2
                            go_round
                            case rel =>
                              refine ⟨k + 1, by omega, by go_num, ?_⟩
                              rw [HS.out]
                              congr 1
                              omega
                            case measure => simp [intOf]; omega
                          · obtain rfl : k = 19 := by omega
                            have HTT := Lib.hid (show valL (T.data.toList.take 19) = N by rw [List.take_of_length_le (by rw [size_list, HT19.out]; exact Nat.le_refl _), hTV.out])
                            rw [HTT.out]
                            have hN9 : (N : Int) ≤ 9000000000000000000 := by have := HLE.out; omega
                            have HV1 := Lib.hid (show timesE a b = 0 by rw [HTE2.out]; exact if_pos HLE.out)
                            have HV2 := Lib.hid (show timesV a b = if (decide (a < 0) != decide (b < 0)) = true then -(N : Int) else (N : Int) by rw [HTV2.out]; exact if_pos HLE.out)
                            clear hk19 hk
                            cases hda : decide (a < 0) <;> cases hdb : decide (b < 0)
                            · have HV3 := Lib.hid (show timesV a b = (N : Int) by rw [HV2.out, hda, hdb]; rfl)
                              go_wp2
                              go_ret2
                              exact ⟨ret_ii HV3.out.symm HV1.out.symm, HLW.out⟩
                            · have HV3 := Lib.hid (show timesV a b = -(N : Int) by rw [HV2.out, hda, hdb]; rfl)
                              go_wp2
                              go_ret2
                              exact ⟨ret_ii HV3.out.symm HV1.out.symm, HLW.out⟩
                            · have HV3 := Lib.hid (show timesV a b = -(N : Int) by rw [HV2.out, hda, hdb]; rfl)
                              go_wp2
                              go_ret2
                              exact ⟨ret_ii HV3.out.symm HV1.out.symm, HLW.out⟩
                            · have HV3 := Lib.hid (show timesV a b = (N : Int) by rw [HV2.out, hda, hdb]; rfl)
                              go_wp2
                              go_ret2
                              exact ⟨ret_ii HV3.out.symm HV1.out.symm, HLW.out⟩
                      · have g1 : Op.bytesLess T.toList [57, 48, 48, 48, 48, 48, 48, 48, 48, 48, 48, 48, 48, 48, 48, 48, 48, 48, 48] = false := by rw [tl]; exact hless.trans (decide_eq_false (by omega))
                        have g2 : (T.toList == [57, 48, 48, 48, 48, 48, 48, 48, 48, 48, 48, 48, 48, 48, 48, 48, 48, 48, 48]) = true := by
                          rw [tl, eq_val T.data.toList maxL hTF.out max_figs hlm (by rw [hTV.out, max_val, hN])]
                          decide
                        have HLE := Lib.hid (show N ≤ 9000000000000000000 by omega)
                        clear hless tl hlm hN hT19x
                        go_wp2_with fail
                        clear g1 g2
                        go_loop [15, 16] (fun n i => ∃ k : Nat, k ≤ 19 ∧ i = .int .i64 k ∧ n = .int .i64 (valL (T.data.toList.take k))) (fun _ i => 19 - (intOf i).toNat)
                        case atStart => exact ⟨0, by omega, rfl, rfl⟩
                        case round =>
                          obtain ⟨k, hk, rfl, rfl⟩ := hrel
                          have hTI : (T.size : Int) = 19 := by rw [HT19.out]; rfl
                          by_cases hk19 : k < 19
                          · have hlt : k < T.size := by rw [HT19.out]; exact hk19
                            have hff := fig_yes (hTF.out.at k hlt)
                            have HS := Lib.hid (show valL (T.data.toList.take (k + 1)) = 10 * valL (T.data.toList.take k) + ((T[k]'hlt).toNat - 48) by rw [take_snoc T k hlt, valL_snoc])
                            have hm : valL (T.data.toList.take (k + 1)) ≤ 9000000000000000000 := by
                              have h1 := valL_take T.data.toList (k + 1)
                              rw [hTV.out] at h1
                              exact Nat.le_trans h1 HLE.out
                            obtain ⟨v, hv⟩ : ∃ v, v = valL (T.data.toList.take k) := ⟨_, rfl⟩
                            obtain ⟨r, hr⟩ : ∃ r, r = (T[k]'hlt).toNat := ⟨_, rfl⟩
                            have hx : ((T[k]'hlt).toNat : Int) = (r : Int) := by rw [hr]
                            rw [← hr] at hff HS
                            rw [← hv] at HS ⊢
                            rw [HS.out] at hm
                            have hr1 : (48 : Int) ≤ r := by omega
                            have hr2 : (r : Int) ≤ 57 := by omega
                            have hm2 : (v : Int) ≤ 900000000000000000 := by omega
                            have hm3 : 10 * (v : Int) + ((r : Int) - 48) ≤ 9000000000000000000 := by omega
                            have hkI : (k : Int) < 19 := by omega
                            clear hff hm hr hv
                            go_wp2
                            go_round
                            case rel =>
                              refine ⟨k + 1, by omega, by go_num, ?_⟩
                              rw [HS.out]
                              congr 1
                              omega
                            case measure => simp [intOf]; omega
                          · obtain rfl : k = 19 := by omega
                            have HTT := Lib.hid (show valL (T.data.toList.take 19) = N by rw [List.take_of_length_le (by rw [size_list, HT19.out]; exact Nat.le_refl _), hTV.out])
                            rw [HTT.out]
                            have hN9 : (N : Int) ≤ 9000000000000000000 := by have := HLE.out; omega
                            have HV1 := Lib.hid (show timesE a b = 0 by rw [HTE2.out]; exact if_pos HLE.out)
                            have HV2 := Lib.hid (show timesV a b = if (decide (a < 0) != decide (b < 0)) = true then -(N : Int) else (N : Int) by rw [HTV2.out]; exact if_pos HLE.out)
                            clear hk19 hk
                            cases hda : decide (a < 0) <;> cases hdb : decide (b < 0)
                            · have HV3 := Lib.hid (show timesV a b = (N : Int) by rw [HV2.out, hda, hdb]; rfl)
                              go_wp2
                              go_ret2
                              exact ⟨ret_ii HV3.out.symm HV1.out.symm, HLW.out⟩
                            · have HV3 := Lib.hid (show timesV a b = -(N : Int) by rw [HV2.out, hda, hdb]; rfl)
                              go_wp2
                              go_ret2
                              exact ⟨ret_ii HV3.out.symm HV1.out.symm, HLW.out⟩
                            · have HV3 := Lib.hid (show timesV a b = -(N : Int) by rw [HV2.out, hda, hdb]; rfl)
                              go_wp2
                              go_ret2
                              exact ⟨ret_ii HV3.out.symm HV1.out.symm, HLW.out⟩
                            · have HV3 := Lib.hid (show timesV a b = (N : Int) by rw [HV2.out, hda, hdb]; rfl)
                              go_wp2
                              go_ret2
                              exact ⟨ret_ii HV3.out.symm HV1.out.symm, HLW.out⟩
                      · have g1 : Op.bytesLess T.toList [57, 48, 48, 48, 48, 48, 48, 48, 48, 48, 48, 48, 48, 48, 48, 48, 48, 48, 48] = false := by rw [tl]; exact hless.trans (decide_eq_false (by omega))
                        have g2 : (T.toList == [57, 48, 48, 48, 48, 48, 48, 48, 48, 48, 48, 48, 48, 48, 48, 48, 48, 48, 48]) = false := by
                          rw [tl, beq_eq_false_iff_ne]
                          intro h
                          have h2 : valL T.data.toList = valL maxL := congrArg valL h
                          rw [hTV.out, max_val] at h2
                          omega
                        have hle : ¬ N ≤ 9000000000000000000 := by omega
                        have HV1 := Lib.hid (show timesE a b = 12 by rw [HTE2.out]; exact if_neg hle)
                        have HV2 := Lib.hid (show timesV a b = 0 by rw [HTV2.out]; exact if_neg hle)
                        clear hless tl hlm hN hle hT19x
                        go_wp2
                        go_ret2
                        exact ⟨ret_ii HV2.out.symm HV1.out.symm, HLW.out⟩
end Go.Proofs.YtoeddhkbifeamaaDoor
