/- The document's Key of rows. -/
import Derived.Test.YtpmhefdalhohdaaDoorORefWord
import Derived.Test.YtpmhefdalhohdaaDoorORefCmp
namespace Go.Proofs.YtpmhefdalhohdaaDoor
open Go.RowKit
set_option linter.unusedVariables false

set_option maxHeartbeats 4000000 in
set_option maxRecDepth 100000 in
theorem refKey_list (b : Bool) (n : Int) (s : ByteArray) (m : Nat) (f : Nat → VT) (q : Nat) (g : Nat → ByteArray) (A : Option Addr) (c : Nat) (B : Option Addr) (d : Nat) (w : World) (ia : InV w (.mk 4 b n s m f q g) #[.int .i64 4, .bool b, .int .i64 n, .string s, .slice A m c, .slice B q d]) (hmc : m ≤ c) (hc : c ≤ 9223372036854775807) (hl : (keyV (.mk 4 b n s m f q g)).length ≤ 1000000000) (hit : ∀ i, i < m → ∃ ds, InV w (f i) ds ∧ ∀ j (h : j < ds.size), cellAt w A (6 * i + j) = some ds[j]) (ih : ∀ i, i < m → (keyV (f i)).length ≤ 1000000000 → ∀ (cs : Array Value) (W : World), InV W (f i) cs → Calls Tryd.prog 18 #[.agg cs] W (MadeP (keyV (f i)) W)) :
    Calls Tryd.prog 18 #[.agg #[.int .i64 4, .bool b, .int .i64 n, .string s, .slice A m c, .slice B q d]] w (MadeP (keyV (.mk 4 b n s m f q g)) w) := by
  have HKE := Lib.hid (keyV_row (k := 4) (b := b) (n := n) (s := s) (m := m) (f := f) (q := q) (g := g) (.inl rfl))
  have hll : 1 + (catN (partK 4 f g) m).length + 1 ≤ 1000000000 := by
    have := hl
    rw [HKE.out] at this
    simp at this
    omega
  have HI := Lib.hid hit
  have IH := Lib.hid ih
  
  
  clear hit ih hl 
  obtain ⟨W1, hW1⟩ : ∃ W1, W1 = w.alloc (.cells #[.int .i64 4, .bool b, .int .i64 n, .string s, .slice A m c, .slice B q d] 25) := ⟨_, rfl⟩
  have hz1 : W1.heap.size = w.heap.size + 1 := by rw [hW1]; simp
  have PW := Lib.hid (show ∀ W : World, Below W1.heap.size W1 W → Below w.heap.size w W ∧ KeepC w W from fun W hb => ⟨(boxed hW1 hb).2.2.2.2.2.2.1, (boxed hW1 hb).2.2.2.2.2.2.2⟩)
  have KS := Lib.hid (show ∀ W : World, Below W1.heap.size W1 W → W.cell? ⟨w.heap.size, 0, none⟩ = some (.int .i64 4) ∧ W.cell? ⟨w.heap.size, 1, none⟩ = some (.bool b) ∧ W.cell? ⟨w.heap.size, 2, none⟩ = some (.int .i64 n) ∧ W.cell? ⟨w.heap.size, 3, none⟩ = some (.string s) ∧ W.cell? ⟨w.heap.size, 4, none⟩ = some (.slice A m c) ∧ W.cell? ⟨w.heap.size, 5, none⟩ = some (.slice B q d) from fun W hb => by
    obtain ⟨a0, a1, a2, a3, a4, a5, _, _⟩ := boxed hW1 hb
    exact ⟨a0, a1, a2, a3, a4, a5⟩)
  have RA := Lib.hid (show Calls Tryd.prog 29 #[.agg #[.int .i64 4, .bool b, .int .i64 n, .string s, .slice A m c, .slice B q d]] W1 fun e w' => e = .returned (.int .i64 6) ∧ Below W1.heap.size W1 w' from by
    have qq := refRank_any (.mk 4 b n s m f q g) _ W1 (ia.keep (PW.out W1 (Below.refl _ _)).2) (by show (0 : Int) ≤ 4 ∧ (4 : Int) ≤ 5; decide)
    rw [show rankV (.mk 4 b n s m f q g) = 6 from rfl] at qq
    exact qq)
  have HZ1 := Lib.hid hz1
  have HW := Lib.hid hW1
  clear hW1 hz1 ia
  go_enter Tryd.func18, Tryd.ntmps18
  go_wp2_with fail
  rw [← HW.out]
  refine RA.out.mono ?_
  rintro e w2 ⟨rfl, l2⟩
  have L2 := Lib.hid l2
  have HO := Lib.hid (own_one w2 W1.heap.size 6 l2.size)
  have L3 := Lib.hid (l2.alloc l2.size (.cells #[.int .u8 6] 5))
  obtain ⟨a0, a1, a2, a3, a4, a5⟩ := KS.out _ L3.out
  clear l2
  go_wp2_with fail
  clear a0 a1 a2 a3 a4 a5
  obtain ⟨base, hbase⟩ : ∃ base, base = W1.heap.size := ⟨_, rfl⟩
  rw [← hbase] at HO
  have HBA := Lib.hid hbase
  clear hbase
  go_loopw [3, 8] (fun v i wr => ∃ j : Nat, j ≤ m ∧ i = .int .i64 j ∧ OwnL wr base v ([6] ++ catN (partK 4 f g) j) ∧ Below W1.heap.size W1 wr) (fun _ i _ => m - (intOf i).toNat)
  case atStart => exact ⟨0, by omega, rfl, by simpa [catN] using HO.out, L3.out⟩
  case round =>
    obtain ⟨j, hj, rfl, ho, hb1⟩ := hrel
    have HO1 := Lib.hid ho
    have HB := Lib.hid hb1
    have HZ := Lib.hid (show base ≤ wr.heap.size by rw [HBA.out]; exact hb1.size)
    obtain ⟨a0, a1, a2, a3, a4, a5⟩ := KS.out _ hb1
    have HK := Lib.hid (PW.out _ hb1).2
    clear ho hb1
    by_cases hlt : j < m
    · obtain ⟨xb, o, kj, bj, nj, sj, Aj, mj, cj, Bj, qj, dj, rfl, hiv, g0, g1, g2, g3, g4, g5⟩ := item_at HI.out (KeepC.refl w) hlt
      have hcl := catN_le (partK 4 f g) (show j + 1 ≤ m by omega)
      rw [catN, List.length_append] at hcl
      have hpl : (partK 4 f g j).length = (keyV (f j)).length := rfl
      have C := Lib.hid (fun (W : World) (h : KeepC w W) => IH.out j hlt (by omega) _ W (hiv.keep h))
      have HC := Lib.hid hcl
      have HP := Lib.hid hpl
      have GI := Lib.hid (show ∀ W : World, KeepC w W → W.cell? ⟨xb, o + j * 6, none⟩ = some (.int .i64 kj) ∧ W.cell? ⟨xb, o + j * 6 + 1, none⟩ = some (.bool bj) ∧ W.cell? ⟨xb, o + j * 6 + 2, none⟩ = some (.int .i64 nj) ∧ W.cell? ⟨xb, o + j * 6 + 3, none⟩ = some (.string sj) ∧ W.cell? ⟨xb, o + j * 6 + 4, none⟩ = some (.slice Aj mj cj) ∧ W.cell? ⟨xb, o + j * 6 + 5, none⟩ = some (.slice Bj qj dj) from fun W h => ⟨h _ _ g0, h _ _ g1, h _ _ g2, h _ _ g3, h _ _ g4, h _ _ g5⟩)
      clear hiv g0 g1 g2 g3 g4 g5
      obtain ⟨g0, g1, g2, g3, g4, g5⟩ := GI.out _ HK.out
      go_wp2_with fail
      refine (C.out _ HK.out).mono ?_
      rintro e w3 ⟨v3, rfl, o3, l3⟩
      have O1 := Lib.hid (HO1.out.below l3)
      have Z1 := Lib.hid (Nat.le_trans HZ.out l3.size)
      have B2 := Lib.hid (HB.out.trans (l3.mono HB.out.size))
      obtain ⟨A3, c3, rfl, hb3, hn3⟩ := o3.bytes
      have HB3 := Lib.hid hb3
      have HN3 := Lib.hid hn3
      clear hb3 hn3 o3 l3
      go_wp2_with (at_builtin; refine wpList_app _ rfl (.tmp 83) (.tmp 89) 35 rfl Tryd.underlying35 u8infoAll base _ _ (keyV (f j)) rfl O1.out _ _ rfl HB3.out HN3.out (by simp; have := HC.out; have := HP.out; omega) Z1.out ?_)
      intro v6 w6 o6 l6
      have O7 := Lib.hid o6
      have B7 := Lib.hid (B2.out.trans (show Below W1.heap.size w3 w6 by rw [← HBA.out]; exact l6.below))
      clear o6 l6
      go_wp2_with fail
      go_roundw
      case rel =>
        refine ⟨j + 1, by omega, by go_num, ?_, B7.out⟩
        have := O7.out
        rw [catN, ← List.append_assoc]; exact this
      case measure => simp [intOf]; omega
    · obtain rfl : j = m := by omega
      have O3 := Lib.hid (HO1.out.below ((Below.refl _ _).alloc (Nat.le_refl _) (.cells #[.int .u8 0] 5)))
      have B3 := Lib.hid (bytes_one wr 0)
      have Z3 := Lib.hid (show base ≤ (wr.alloc (.cells #[.int .u8 0] 5)).heap.size by simp only [World.size_alloc]; have := HZ.out; omega)
      go_wp2_with (at_builtin; refine wpList_app _ rfl (.tmp 91) (.tmp 92) 35 rfl Tryd.underlying35 u8infoAll base _ _ [0] rfl O3.out _ _ rfl B3.out (fun e => by cases e) (by simp; omega) Z3.out ?_)
      intro v4 w4 o4 l4
      have O4 := Lib.hid o4
      have B4 := Lib.hid ((HB.out.alloc HB.out.size (.cells #[.int .u8 0] 5)).trans (show Below W1.heap.size _ w4 by rw [← HBA.out]; exact l4.below))
      clear o4 l4
      go_wp2_with fail
      go_ret
      refine ⟨_, rfl, OwnL.lower (b := base) ?_ (by have := HZ1.out; have := HBA.out; omega), (PW.out _ B4.out).1⟩
      have := O4.out
      rw [HKE.out, show UInt8.ofNat ((4 : Int) + 2).toNat = 6 from rfl]
      simpa using this
set_option maxHeartbeats 4000000 in
set_option maxRecDepth 100000 in
theorem refKey_object (b : Bool) (n : Int) (s : ByteArray) (m : Nat) (f : Nat → VT) (g : Nat → ByteArray) (A : Option Addr) (c : Nat) (B : Option Addr) (d : Nat) (w : World) (ia : InV w (.mk 5 b n s m f m g) #[.int .i64 5, .bool b, .int .i64 n, .string s, .slice A m c, .slice B m d]) (hmc : m ≤ c) (hc : c ≤ 9223372036854775807) (hl : (keyV (.mk 5 b n s m f m g)).length ≤ 1000000000) (hit : ∀ i, i < m → ∃ ds, InV w (f i) ds ∧ ∀ j (h : j < ds.size), cellAt w A (6 * i + j) = some ds[j]) (hqd : m ≤ d) (hd : d ≤ 9223372036854775807) (hnm : ∀ i, i < m → cellAt w B i = some (.string (g i)) ∧ (g i).size ≤ 9223372036854775807) (hgs : ∀ i, i < m → (g i).size ≤ 100000) (ih : ∀ i, i < m → (keyV (f i)).length ≤ 1000000000 → ∀ (cs : Array Value) (W : World), InV W (f i) cs → Calls Tryd.prog 18 #[.agg cs] W (MadeP (keyV (f i)) W)) :
    Calls Tryd.prog 18 #[.agg #[.int .i64 5, .bool b, .int .i64 n, .string s, .slice A m c, .slice B m d]] w (MadeP (keyV (.mk 5 b n s m f m g)) w) := by
  have HKE := Lib.hid (keyV_row (k := 5) (b := b) (n := n) (s := s) (m := m) (f := f) (q := m) (g := g) (.inr rfl))
  have hll : 1 + (catN (partK 5 f g) m).length + 1 ≤ 1000000000 := by
    have := hl
    rw [HKE.out] at this
    simp at this
    omega
  have HI := Lib.hid hit
  have IH := Lib.hid ih
  have HN := Lib.hid hnm
  have HG := Lib.hid hgs
  clear hit ih hl hnm hgs
  obtain ⟨W1, hW1⟩ : ∃ W1, W1 = w.alloc (.cells #[.int .i64 5, .bool b, .int .i64 n, .string s, .slice A m c, .slice B m d] 25) := ⟨_, rfl⟩
  have hz1 : W1.heap.size = w.heap.size + 1 := by rw [hW1]; simp
  have PW := Lib.hid (show ∀ W : World, Below W1.heap.size W1 W → Below w.heap.size w W ∧ KeepC w W from fun W hb => ⟨(boxed hW1 hb).2.2.2.2.2.2.1, (boxed hW1 hb).2.2.2.2.2.2.2⟩)
  have KS := Lib.hid (show ∀ W : World, Below W1.heap.size W1 W → W.cell? ⟨w.heap.size, 0, none⟩ = some (.int .i64 5) ∧ W.cell? ⟨w.heap.size, 1, none⟩ = some (.bool b) ∧ W.cell? ⟨w.heap.size, 2, none⟩ = some (.int .i64 n) ∧ W.cell? ⟨w.heap.size, 3, none⟩ = some (.string s) ∧ W.cell? ⟨w.heap.size, 4, none⟩ = some (.slice A m c) ∧ W.cell? ⟨w.heap.size, 5, none⟩ = some (.slice B m d) from fun W hb => by
    obtain ⟨a0, a1, a2, a3, a4, a5, _, _⟩ := boxed hW1 hb
    exact ⟨a0, a1, a2, a3, a4, a5⟩)
  have RA := Lib.hid (show Calls Tryd.prog 29 #[.agg #[.int .i64 5, .bool b, .int .i64 n, .string s, .slice A m c, .slice B m d]] W1 fun e w' => e = .returned (.int .i64 7) ∧ Below W1.heap.size W1 w' from by
    have qq := refRank_any (.mk 5 b n s m f m g) _ W1 (ia.keep (PW.out W1 (Below.refl _ _)).2) (by show (0 : Int) ≤ 5 ∧ (5 : Int) ≤ 5; decide)
    rw [show rankV (.mk 5 b n s m f m g) = 7 from rfl] at qq
    exact qq)
  have HZ1 := Lib.hid hz1
  have HW := Lib.hid hW1
  clear hW1 hz1 ia
  go_enter Tryd.func18, Tryd.ntmps18
  go_wp2_with fail
  rw [← HW.out]
  refine RA.out.mono ?_
  rintro e w2 ⟨rfl, l2⟩
  have L2 := Lib.hid l2
  have HO := Lib.hid (own_one w2 W1.heap.size 7 l2.size)
  have L3 := Lib.hid (l2.alloc l2.size (.cells #[.int .u8 7] 5))
  obtain ⟨a0, a1, a2, a3, a4, a5⟩ := KS.out _ L3.out
  clear l2
  go_wp2_with fail
  clear a0 a1 a2 a3 a4 a5
  obtain ⟨base, hbase⟩ : ∃ base, base = W1.heap.size := ⟨_, rfl⟩
  rw [← hbase] at HO
  have HBA := Lib.hid hbase
  clear hbase
  go_loopw [3, 8] (fun v i wr => ∃ j : Nat, j ≤ m ∧ i = .int .i64 j ∧ OwnL wr base v ([7] ++ catN (partK 5 f g) j) ∧ Below W1.heap.size W1 wr) (fun _ i _ => m - (intOf i).toNat)
  case atStart => exact ⟨0, by omega, rfl, by simpa [catN] using HO.out, L3.out⟩
  case round =>
    obtain ⟨j, hj, rfl, ho, hb1⟩ := hrel
    have HO1 := Lib.hid ho
    have HB := Lib.hid hb1
    have HZ := Lib.hid (show base ≤ wr.heap.size by rw [HBA.out]; exact hb1.size)
    obtain ⟨a0, a1, a2, a3, a4, a5⟩ := KS.out _ hb1
    have HK := Lib.hid (PW.out _ hb1).2
    clear ho hb1
    by_cases hlt : j < m
    · obtain ⟨xb, o, kj, bj, nj, sj, Aj, mj, cj, Bj, qj, dj, rfl, hiv, g0, g1, g2, g3, g4, g5⟩ := item_at HI.out (KeepC.refl w) hlt
      have hcl := catN_le (partK 5 f g) (show j + 1 ≤ m by omega)
      rw [catN, List.length_append] at hcl
      have hpl : (partK 5 f g j).length = (wordK (g j).data.toList).length + (keyV (f j)).length := by unfold partK; rw [if_pos rfl, List.length_append]
      have C := Lib.hid (fun (W : World) (h : KeepC w W) => IH.out j hlt (by omega) _ W (hiv.keep h))
      have HC := Lib.hid hcl
      have HP := Lib.hid hpl
      have GI := Lib.hid (show ∀ W : World, KeepC w W → W.cell? ⟨xb, o + j * 6, none⟩ = some (.int .i64 kj) ∧ W.cell? ⟨xb, o + j * 6 + 1, none⟩ = some (.bool bj) ∧ W.cell? ⟨xb, o + j * 6 + 2, none⟩ = some (.int .i64 nj) ∧ W.cell? ⟨xb, o + j * 6 + 3, none⟩ = some (.string sj) ∧ W.cell? ⟨xb, o + j * 6 + 4, none⟩ = some (.slice Aj mj cj) ∧ W.cell? ⟨xb, o + j * 6 + 5, none⟩ = some (.slice Bj qj dj) from fun W h => ⟨h _ _ g0, h _ _ g1, h _ _ g2, h _ _ g3, h _ _ g4, h _ _ g5⟩)
      clear hiv g0 g1 g2 g3 g4 g5
      obtain ⟨yb, yo, rfl, gn, gz⟩ := name_at HN.out HK.out hlt
      have NG := Lib.hid gn
      clear gz
      go_wp2_with fail
      refine (refWord_any (g j) _ (HG.out j hlt)).mono ?_
      rintro e w4 ⟨v4, rfl, o4, l4⟩
      have O5 := Lib.hid (HO1.out.below l4)
      have Z5 := Lib.hid (Nat.le_trans HZ.out l4.size)
      have B5 := Lib.hid (HB.out.trans (l4.mono HB.out.size))
      obtain ⟨A4, c4, rfl, hb4, hn4⟩ := o4.bytes
      have HB4 := Lib.hid hb4
      have HN4 := Lib.hid hn4
      clear hb4 hn4 o4 l4
      go_wp2_with (at_builtin; refine wpList_app _ rfl (.tmp 75) (.tmp 81) 35 rfl Tryd.underlying35 u8infoAll base _ _ (wordK (g j).data.toList) rfl O5.out _ _ rfl HB4.out HN4.out (by simp; have := HC.out; have := HP.out; omega) Z5.out ?_)
      intro v5 w5 o5 l5
      have O6 := Lib.hid o5
      have Z6 := Lib.hid (Nat.le_trans Z5.out l5.size)
      have B6 := Lib.hid (B5.out.trans (show Below W1.heap.size w4 w5 by rw [← HBA.out]; exact l5.below))
      clear o5 l5 a0 a1 a2 a3 a4 a5 gn
      obtain ⟨a0, a1, a2, a3, a4, a5⟩ := KS.out _ B6.out
      have HK6 := Lib.hid (PW.out _ B6.out).2
      obtain ⟨g0, g1, g2, g3, g4, g5⟩ := GI.out _ HK6.out
      go_wp2_with fail
      refine (C.out _ HK6.out).mono ?_
      rintro e w3 ⟨v3, rfl, o3, l3⟩
      have O1 := Lib.hid (O6.out.below l3)
      have Z1 := Lib.hid (Nat.le_trans Z6.out l3.size)
      have B2 := Lib.hid (B6.out.trans (l3.mono B6.out.size))
      obtain ⟨A3, c3, rfl, hb3, hn3⟩ := o3.bytes
      have HB3 := Lib.hid hb3
      have HN3 := Lib.hid hn3
      clear hb3 hn3 o3 l3
      go_wp2_with (at_builtin; refine wpList_app _ rfl (.tmp 83) (.tmp 89) 35 rfl Tryd.underlying35 u8infoAll base _ _ (keyV (f j)) rfl O1.out _ _ rfl HB3.out HN3.out (by simp; have := HC.out; have := HP.out; omega) Z1.out ?_)
      intro v6 w6 o6 l6
      have O7 := Lib.hid o6
      have B7 := Lib.hid (B2.out.trans (show Below W1.heap.size w3 w6 by rw [← HBA.out]; exact l6.below))
      clear o6 l6
      go_wp2_with fail
      go_roundw
      case rel =>
        refine ⟨j + 1, by omega, by go_num, ?_, B7.out⟩
        have := O7.out
        rw [catN, show partK 5 f g j = wordK (g j).data.toList ++ keyV (f j) by unfold partK; rw [if_pos rfl]]; simpa using this
      case measure => simp [intOf]; omega
    · obtain rfl : j = m := by omega
      have O3 := Lib.hid (HO1.out.below ((Below.refl _ _).alloc (Nat.le_refl _) (.cells #[.int .u8 0] 5)))
      have B3 := Lib.hid (bytes_one wr 0)
      have Z3 := Lib.hid (show base ≤ (wr.alloc (.cells #[.int .u8 0] 5)).heap.size by simp only [World.size_alloc]; have := HZ.out; omega)
      go_wp2_with (at_builtin; refine wpList_app _ rfl (.tmp 91) (.tmp 92) 35 rfl Tryd.underlying35 u8infoAll base _ _ [0] rfl O3.out _ _ rfl B3.out (fun e => by cases e) (by simp; omega) Z3.out ?_)
      intro v4 w4 o4 l4
      have O4 := Lib.hid o4
      have B4 := Lib.hid ((HB.out.alloc HB.out.size (.cells #[.int .u8 0] 5)).trans (show Below W1.heap.size _ w4 by rw [← HBA.out]; exact l4.below))
      clear o4 l4
      go_wp2_with fail
      go_ret
      refine ⟨_, rfl, OwnL.lower (b := base) ?_ (by have := HZ1.out; have := HBA.out; omega), (PW.out _ B4.out).1⟩
      have := O4.out
      rw [HKE.out, show UInt8.ofNat ((5 : Int) + 2).toNat = 7 from rfl]
      simpa using this
end Go.Proofs.YtpmhefdalhohdaaDoor
