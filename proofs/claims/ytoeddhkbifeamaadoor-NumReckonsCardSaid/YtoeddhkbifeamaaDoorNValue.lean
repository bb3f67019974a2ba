/- num.pieces.value. -/
import Derived.Test.YtoeddhkbifeamaaDoorNPower
import Derived.Test.YtoeddhkbifeamaaDoorNPrint
import Derived.Lib.Repeat
namespace Go.Proofs.YtoeddhkbifeamaaDoor
open Go.RowKit
set_option linter.unusedVariables false

theorem trimL_mk (s F : ByteArray) (h : F = ⟨(Lib.trimLeftB s.data.toList 48).toArray⟩) (w : World) :
    Calls Tryd.prog 39 #[.string s, .string ⟨#[48]⟩] w fun e w' => e = .returned (.string F) ∧ w = w' := by
  refine (Tryd.strings_TrimLeft_one s 48 (by decide) w).mono ?_
  rintro e w' ⟨rfl, rfl⟩
  exact ⟨by rw [h], rfl⟩
theorem trimR_mk (s F : ByteArray) (h : F = ⟨(Lib.trimRightB s.data.toList 48).toArray⟩) (hs : s.size ≤ 9223372036854775807) (w : World) :
    Calls Tryd.prog 28 #[.string s, .string ⟨#[48]⟩] w fun e w' => e = .returned (.string F) ∧ w = w' := by
  refine (Tryd.strings_TrimRight_one s 48 (by decide) w hs).mono ?_
  rintro e w' ⟨rfl, rfl⟩
  exact ⟨by rw [h], rfl⟩
theorem repeat_zeros (c : Nat) (hc : c ≤ 100) (w : World) :
    Calls Tryd.prog 41 #[.string ⟨#[48]⟩, .int .i64 (c : Int)] w fun e w' => e = .returned (.string ⟨(List.replicate c 48).toArray⟩) ∧ Below w.heap.size w w' := by
  refine (Tryd.strings_Repeat ⟨#[48]⟩ c w (by omega) (by show 1 * c ≤ _; omega)).mono ?_
  rintro e w' ⟨rfl, hb⟩
  refine ⟨?_, hb⟩
  have := Lib.repeatL_replicate 48 1 c
  rw [Nat.mul_one] at this
  rw [← this]
  rfl
theorem data_app (a b : ByteArray) : (a ++ b).data.toList = a.data.toList ++ b.data.toList := by simp
theorem ret_ii {a b c d : Int} (h : a = c) (h2 : b = d) : Ending.returned (.tuple #[.int .i64 a, .int .i64 b]) = .returned (.tuple #[.int .i64 c, .int .i64 d]) := by rw [h, h2]
/-- Behind the walk of a figure's row. -/
def ValPost (p : Pc) (w : World) (e : Ending) (w' : World) : Prop := e = .returned (.tuple #[.int .i64 (valV p), .int .i64 (valE p)]) ∧ Below w.heap.size w w'
theorem trimL_sub (l : List UInt8) (c : UInt8) : ∀ x ∈ Lib.trimLeftB l c, x ∈ l := fun x h => (List.dropWhile_sublist _).subset h
theorem trimR_sub (l : List UInt8) (c : UInt8) : ∀ x ∈ Lib.trimRightB l c, x ∈ l := fun x h => by
  unfold Lib.trimRightB at h
  rw [List.mem_reverse] at h
  exact List.mem_reverse.1 ((List.dropWhile_sublist _).subset h)
theorem trimL_le (l : List UInt8) (c : UInt8) : (Lib.trimLeftB l c).length ≤ l.length := (List.dropWhile_sublist _).length_le
theorem mk_size (l : List UInt8) : (⟨l.toArray⟩ : ByteArray).size = l.length := by simp [ByteArray.size]

set_option maxHeartbeats 4000000 in
set_option maxRecDepth 100000 in
theorem value_any (p : Pc) (w : World) (f1 : Figs p.whole.data.toList) (f2 : Figs p.rest.data.toList) (f3 : Figs p.exponent.data.toList)
    (s1 : p.whole.size ≤ 1000000) (s2 : p.rest.size ≤ 1000000) (s3 : p.exponent.size ≤ 1000000) :
    Calls Tryd.prog 21 #[p.val] w (ValPost p w) := by
  have CP := Lib.hid fun W => power_any p W f3 (by omega)
  have hpw := powV_le p
  have hfr := trimL_le (p.whole.data.toList ++ p.rest.data.toList) 48
  have hba := trimR_le (frontL p) 48
  have hfb : Figs (bareL p) := Figs.sub (Figs.append f1 f2) fun c hc => trimL_sub _ _ _ (trimR_sub _ _ _ hc)
  obtain ⟨F, hF⟩ : ∃ F : ByteArray, F = ⟨(frontL p).toArray⟩ := ⟨_, rfl⟩
  obtain ⟨E, hE⟩ : ∃ E : ByteArray, E = ⟨(bareL p).toArray⟩ := ⟨_, rfl⟩
  have C1 := Lib.hid fun W => trimL_mk (p.whole ++ p.rest) F (by rw [hF, data_app]; rfl) W
  have nF : F.size = (frontL p).length := by rw [hF, mk_size]
  have nE : E.size = (bareL p).length := by rw [hE, mk_size]
  have hb1 : E.size ≤ F.size := by rw [nF, nE]; exact hba
  have hb2 : F.size ≤ 2000000 := by
    rw [nF]
    refine Nat.le_trans hfr ?_
    rw [List.length_append]
    have e1 : p.whole.data.toList.length = p.whole.size := by simp
    have e2 : p.rest.data.toList.length = p.rest.size := by simp
    omega
  have C2 := Lib.hid fun W => trimR_mk F E (by rw [hE, hF]; rfl) (by omega) W
  obtain ⟨x, hx⟩ : ∃ x, x = powV p := ⟨_, rfl⟩
  have hz : zerosZ p = (F.size : Int) - E.size - p.rest.size + x + 7 := by unfold zerosZ; rw [nF, nE, hx]
  rw [← hx] at CP hpw
  obtain ⟨b, wh, re, dn, ex, n⟩ := p
  have s1' : wh.size ≤ 1000000 := s1
  have s2' : re.size ≤ 1000000 := s2
  have C1' : Hid (∀ W, Calls Tryd.prog 39 #[.string (wh ++ re), .string ⟨#[48]⟩] W fun e w' => e = .returned (.string F) ∧ W = w') := C1
  have CP' : Hid (∀ W, Calls Tryd.prog 40 #[.agg #[.bool b, .string wh, .string re, .bool dn, .string ex, .int .i64 n]] W fun e w' => e = .returned (.int .i64 x) ∧ Below W.heap.size W w') := CP
  obtain ⟨p, hp⟩ : ∃ p : Pc, p = ⟨b, wh, re, dn, ex, n⟩ := ⟨_, rfl⟩
  have hpb : b = p.below := by rw [hp]
  have hv : p.val = .agg #[.bool b, .string wh, .string re, .bool dn, .string ex, .int .i64 n] := by rw [hp]; rfl
  have hz' : zerosZ ⟨b, wh, re, dn, ex, n⟩ = (F.size : Int) - E.size - re.size + x + 7 := hz
  clear hz
  rw [← hp] at hz' nF nE hfb hE hF ⊢
  rw [hv]
  have HP := Lib.hid hp
  have HZ := Lib.hid hz'
  have HE := Lib.hid (And.intro hE nE)
  have HPB := Lib.hid hpb
  have HFB := Lib.hid hfb
  obtain ⟨W, hW⟩ : ∃ W, W = w.alloc (.cells #[.bool b, .string wh, .string re, .bool dn, .string ex, .int .i64 n] 39) := ⟨_, rfl⟩
  have B0 : W.heap[w.heap.size]? = some (.cells #[.bool b, .string wh, .string re, .bool dn, .string ex, .int .i64 n] 39 (0, 0)) := hW ▸ heap_alloc_new _ _
  have HB := Lib.hid (show Below w.heap.size w W from hW ▸ (Below.refl _ _).alloc (Nat.le_refl _) _)
  clear hp hv hz' hE nE hpb hfb hx C1 CP f1 f2 f3 s1 s2 s3 hF nF hfr hba
  go_enter Tryd.func21, Tryd.ntmps21
  go_upto_region 1 with (fail)
  rw [← hW]
  have y0 : W.cell? ⟨w.heap.size, 0, none⟩ = some (.bool b) := cell_of_row W _ 0 _ _ _ B0
  have y1 : W.cell? ⟨w.heap.size, 1, none⟩ = some (.string wh) := cell_of_row W _ 1 _ _ _ B0
  have y2 : W.cell? ⟨w.heap.size, 2, none⟩ = some (.string re) := cell_of_row W _ 2 _ _ _ B0
  have y3 : W.cell? ⟨w.heap.size, 3, none⟩ = some (.bool dn) := cell_of_row W _ 3 _ _ _ B0
  have y4 : W.cell? ⟨w.heap.size, 4, none⟩ = some (.string ex) := cell_of_row W _ 4 _ _ _ B0
  have y5 : W.cell? ⟨w.heap.size, 5, none⟩ = some (.int .i64 n) := cell_of_row W _ 5 _ _ _ B0
  have HB0 := Lib.hid B0
  have hlt := lt_of_block B0
  clear hW B0
  by_cases hnil : bareL p = []
  · have HV := Lib.hid (show valV p = 0 from if_pos hnil)
    have HW := Lib.hid (show valE p = 0 from if_pos hnil)
    have hE0 : E = ⟨#[]⟩ := by rw [HE.out.1, hnil]
    subst hE0
    clear hnil
    go_wp2_with (first
      | (go_at_call 39; refine (C1'.out _).mono ?_; rintro e w' ⟨rfl, rfl⟩)
      | (go_at_call 28; refine (C2.out _).mono ?_; rintro e w' ⟨rfl, rfl⟩))
    go_ret2
    exact ⟨ret_ii HV.out.symm HW.out.symm, HB.out⟩
  · have hne : E.toList.isEmpty = false := nonempty_of E (by rw [HE.out.2]; exact fun h => hnil (List.eq_nil_of_length_eq_zero h))
    have HN := Lib.hid hnil
    clear hnil
    have x1 : IntKind.i64.wrap ((F.size : Int) - E.size) = (F.size : Int) - E.size := IntWalk.i64_in _ (by omega)
    have x2 : IntKind.i64.wrap ((F.size : Int) - E.size - re.size) = (F.size : Int) - E.size - re.size := IntWalk.i64_in _ (by omega)
    have x3 : IntKind.i64.wrap ((F.size : Int) - E.size - re.size + x) = (F.size : Int) - E.size - re.size + x := IntWalk.i64_in _ (by omega)
    have x4 : IntKind.i64.wrap ((F.size : Int) - E.size - re.size + x + 7) = (F.size : Int) - E.size - re.size + x + 7 := IntWalk.i64_in _ (by omega)
    have hzb : (F.size : Int) - E.size - re.size + x + 7 ≤ 4000000 ∧ -4000000 ≤ (F.size : Int) - E.size - re.size + x + 7 := by omega
    have KS := Lib.hid (show ∀ W', Below W.heap.size W W' → W'.cell? ⟨w.heap.size, 0, none⟩ = some (.bool b) ∧ W'.cell? ⟨w.heap.size, 1, none⟩ = some (.string wh) ∧ W'.cell? ⟨w.heap.size, 2, none⟩ = some (.string re) ∧
        W'.cell? ⟨w.heap.size, 3, none⟩ = some (.bool dn) ∧ W'.cell? ⟨w.heap.size, 4, none⟩ = some (.string ex) ∧ W'.cell? ⟨w.heap.size, 5, none⟩ = some (.int .i64 n) from fun W' h =>
      ⟨(h.cell (p := ⟨w.heap.size, 0, none⟩) hlt).trans y0, (h.cell (p := ⟨w.heap.size, 1, none⟩) hlt).trans y1, (h.cell (p := ⟨w.heap.size, 2, none⟩) hlt).trans y2,
        (h.cell (p := ⟨w.heap.size, 3, none⟩) hlt).trans y3, (h.cell (p := ⟨w.heap.size, 4, none⟩) hlt).trans y4, (h.cell (p := ⟨w.heap.size, 5, none⟩) hlt).trans y5⟩)
    go_wp2_with (first
      | (go_at_call 39; refine (C1'.out _).mono ?_; rintro e w' ⟨rfl, rfl⟩)
      | (go_at_call 28; refine (C2.out _).mono ?_; rintro e w' ⟨rfl, rfl⟩))
    go_region_held3 (fun W' => W'.cell? ⟨w.heap.size, 0, none⟩ = some (.bool b) ∧ W'.cell? ⟨w.heap.size, 1, none⟩ = some (.string wh) ∧ W'.cell? ⟨w.heap.size, 2, none⟩ = some (.string re) ∧
        W'.cell? ⟨w.heap.size, 3, none⟩ = some (.bool dn) ∧ W'.cell? ⟨w.heap.size, 4, none⟩ = some (.string ex) ∧ W'.cell? ⟨w.heap.size, 5, none⟩ = some (.int .i64 n))
      (first | exact KS.out _ L1 | exact ⟨y0, y1, y2, y3, y4, y5⟩ | go_keep)
      ((go_at_call 40; refine (CP'.out _).mono ?_; rintro e w1 ⟨rfl, l1⟩; have L1 : Below W.heap.size W w1 := ((Below.refl _ _).drew).trans l1))
    obtain ⟨z, hz⟩ : ∃ z, z = (F.size : Int) - E.size - re.size + x + 7 := ⟨_, rfl⟩
    have HZZ := Lib.hid (show zerosZ p = z by rw [HZ.out, hz])
    rw [← hz] at hzb ⊢
    have L2 := Lib.hid (HB.out.trans (L1.mono HB.out.size))
    have hy0 := (KS.out _ L1).1
    have hsz := L1.size
    clear hz x1 x2 x3 x4 l1 L1 y0 y1 y2 y3 y4 y5 KS C1' C2 CP' hpw hne
    by_cases hz1 : z < 0
    · have HV := Lib.hid (show valV p = 0 by unfold valV; rw [if_neg HN.out, if_pos (.inl (HZZ.out.symm ▸ hz1))])
      have HW := Lib.hid (show valE p = 12 by unfold valE; rw [if_neg HN.out, if_pos (.inl (HZZ.out.symm ▸ hz1))])
      go_wp2
      go_ret2
      exact ⟨ret_ii HV.out.symm HW.out.symm, L2.out⟩
    · by_cases hz2 : 19 < (E.size : Int) + z
      · have HO := Lib.hid (show zerosZ p < 0 ∨ 19 < ((bareL p).length : Int) + zerosZ p from .inr (by rw [HZZ.out, ← HE.out.2]; exact hz2))
        have HV := Lib.hid (show valV p = 0 by unfold valV; rw [if_neg HN.out, if_pos HO.out])
        have HW := Lib.hid (show valE p = 12 by unfold valE; rw [if_neg HN.out, if_pos HO.out])
        go_wp2
        go_ret2
        exact ⟨ret_ii HV.out.symm HW.out.symm, L2.out⟩
      · have HO := Lib.hid (show ¬ (zerosZ p < 0 ∨ 19 < ((bareL p).length : Int) + zerosZ p) by rw [HZZ.out, ← HE.out.2]; omega)
        have HV := Lib.hid (show valV p = numV (sizeN p) b by unfold valV; rw [if_neg HN.out, if_neg HO.out, HPB.out])
        have HW := Lib.hid (show valE p = numE (sizeN p) by unfold valE; rw [if_neg HN.out, if_neg HO.out])
        obtain ⟨c, hc⟩ : ∃ c : Nat, z = c := ⟨z.toNat, by omega⟩
        subst hc
        obtain ⟨Z, hZ⟩ : ∃ Z : ByteArray, Z = ⟨(List.replicate c 48).toArray⟩ := ⟨_, rfl⟩
        have CZ := Lib.hid fun W => hZ ▸ repeat_zeros c (by omega) W
        have nZ : Z.size = c := by rw [hZ, mk_size, List.length_replicate]
        obtain ⟨T, hT⟩ : ∃ T, T = E ++ Z := ⟨_, rfl⟩
        have dT : T.data.toList = bareL p ++ List.replicate c 48 := by rw [hT, data_app, HE.out.1, hZ]
        have nT : T.size = E.size + c := by rw [hT, ByteArray.size_append, nZ]
        have HFT := Lib.hid (show Figs T.data.toList by rw [dT]; exact HFB.out.append (figs_zeros c))
        have HST := Lib.hid (show valL T.data.toList = sizeN p by rw [dT]; unfold sizeN; rw [HZZ.out]; rfl)
        have hT19 : T.size ≤ 19 := by omega
        have hZ19 : Z.size ≤ 19 := by omega
        have hE19 : E.size ≤ 19 := by omega
        have HT := Lib.hid hT.symm
        have hc19 : c ≤ 19 := by omega
        clear hZ nZ hT dT nT hb1 hb2 HO HN hz1 hzb
        go_wp2_with fail
        refine (CZ.out _).mono ?_
        rintro e w2 ⟨rfl, l2⟩
        have hx := HT.out
        have L3 := Lib.hid (L2.out.trans (l2.mono L2.out.size))
        have hy2 : w2.cell? ⟨w.heap.size, 0, none⟩ = some (.bool b) := (l2.cell (p := ⟨w.heap.size, 0, none⟩) (by show w.heap.size < _; omega)).trans hy0
        have hlt2 : w.heap.size < w2.heap.size := by have := l2.size; omega
        have HY := Lib.hid (show ∀ k, (w2.iter T k).cell? ⟨w.heap.size, 0, none⟩ = some (.bool b) from fun k => (World.cell?_of_block (w := w2) (a := ⟨w.heap.size, 0, none⟩) (Below.heap_alloc _ _ _ hlt2)).trans hy2)
        clear l2 hy2 hy0 hsz hlt CZ L2
        go_wp2
        clear hx
        go_loopw [7] (fun n w' => ∃ k : Nat, w' = w2.iter T k ∧ n = .int .u64 (valL (T.data.toList.take k)) ∧ k ≤ T.size) (fun _ w' => T.size - w'.iterPos w2.heap.size)
        case atStart => exact ⟨0, rfl, rfl, by omega⟩
        case round =>
          obtain ⟨k, rfl, rfl, hk⟩ := hrel
          by_cases hp : k < T.size
          · have hff := fig_yes (HFT.out.at k hp)
            have hnx := fun ty => run_next_ascii (P := Tryd.prog) w2 T k ty hp (by omega)
            have HS := Lib.hid (show valL (T.data.toList.take (k + 1)) = 10 * valL (T.data.toList.take k) + ((T[k]'hp).toNat - 48) by rw [take_snoc T k hp, valL_snoc])
            have hm : valL (T.data.toList.take k) ≤ 999999999999999999 := by
              have h1 := valL_lt (T.data.toList.take k) (HFT.out.sub fun c hc => List.mem_of_mem_take hc)
              have h2 : (T.data.toList.take k).length ≤ 18 := Nat.le_trans (List.length_take_le _ _) (by omega)
              have h3 : 10 ^ (T.data.toList.take k).length ≤ 10 ^ 18 := Nat.pow_le_pow_right (by omega) h2
              have h4 : (10 : Nat) ^ 18 = 1000000000000000000 := by decide
              omega
            obtain ⟨m, hme⟩ : ∃ m, m = valL (T.data.toList.take k) := ⟨_, rfl⟩
            obtain ⟨r, hre⟩ : ∃ r, r = (T[k]'hp).toNat := ⟨_, rfl⟩
            rw [← hre] at hnx hff HS
            rw [← hme] at hm HS ⊢
            clear hme hre
            have hr1 : (48 : Int) ≤ r := by omega
            have hr2 : (r : Int) ≤ 57 := by omega
            have hm2 : (m : Int) ≤ 999999999999999999 := by omega
            clear hff hm
            go_wp2
            go_roundw
            case rel =>
              refine ⟨k + 1, rfl, ?_, by omega⟩
              rw [HS.out]
              congr 1
              omega
            case measure => simp; omega
          · obtain rfl : k = T.size := by omega
            have hnx := fun ty => run_next_end (P := Tryd.prog) w2 T T.size ty hp
            have y0 := HY.out T.size
            have HTT := Lib.hid (show T.data.toList.take T.size = T.data.toList from List.take_of_length_le (by simp))
            rw [HTT.out, HST.out]
            have hb : Below w.heap.size w (w2.iter T T.size) := L3.out.alloc L3.out.size _
            have hsN : sizeN p < 18446744073709551616 := by
              rw [← HST.out]
              have h1 := valL_lt T.data.toList HFT.out
              have h2 : T.data.toList.length ≤ 19 := by simpa using hT19
              have h3 : 10 ^ T.data.toList.length ≤ 10 ^ 19 := Nat.pow_le_pow_right (by omega) h2
              have h4 : (10 : Nat) ^ 19 = 10000000000000000000 := by decide
              omega
            have CN := Lib.hid fun W => number_any (sizeN p) b W hsN
            obtain ⟨N, hN⟩ : ∃ N, N = sizeN p := ⟨_, rfl⟩
            rw [← hN] at CN HV HW ⊢
            clear hN hsN HST
            go_wp2_with (go_at_call 33; refine (CN.out _).mono ?_; rintro e w' ⟨rfl, rfl⟩)
            go_ret2
            exact ⟨ret_ii HV.out.symm HW.out.symm, hb⟩
end Go.Proofs.YtoeddhkbifeamaaDoor
