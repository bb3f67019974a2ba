/- The document's Key of numbers. -/
import Derived.Test.YtpmhefdalhohdaaDoorORefWord
import Derived.Test.YtpmhefdalhohdaaDoorORefCmp
import Derived.Deep.QuietTactic
import Derived.BigQuiet
namespace Go.Proofs.YtpmhefdalhohdaaDoor
open Go.RowKit
set_option linter.unusedVariables false

theorem wrap_in {a : Int} (h : -9223372036854775808 ≤ a ∧ a ≤ 9223372036854775807) : IntKind.i64.wrap a = a := by
  rw [IntKind.wrap_i64]; omega
/-- What is left of 32 bits, from above, behind so many bytes. -/
def hN (T : Int) : Nat → Int
  | 0 => T
  | j + 1 => hN T j % 16777216 * 256
theorem hN_in {T : Int} (h : 0 ≤ T ∧ T < 4294967296) : ∀ j, 0 ≤ hN T j ∧ hN T j < 4294967296
  | 0 => h
  | j + 1 => by
    have := hN_in h j
    rw [hN]
    omega
theorem high_byte (n : Int) (hn : -9223372036854775808 ≤ n ∧ n ≤ 9223372036854775807) (j : Nat) (hj : j < 4) : hN ((n + 9223372036854775808) / 4294967296) j / 16777216 = ((numB n (7 - j)).toNat : Int) := by
  rcases (show j = 0 ∨ j = 1 ∨ j = 2 ∨ j = 3 by omega) with rfl | rfl | rfl | rfl
  · show hN _ 0 / _ = ((numB n 7).toNat : Int); have := numB_int n 7 hn.1 72057594037927936 (by decide); simp only [hN]; omega
  · show hN _ 1 / _ = ((numB n 6).toNat : Int); have := numB_int n 6 hn.1 281474976710656 (by decide); simp only [hN]; omega
  · show hN _ 2 / _ = ((numB n 5).toNat : Int); have := numB_int n 5 hn.1 1099511627776 (by decide); simp only [hN]; omega
  · show hN _ 3 / _ = ((numB n 4).toNat : Int); have := numB_int n 4 hn.1 4294967296 (by decide); simp only [hN]; omega
theorem low_byte (n : Int) (hn : -9223372036854775808 ≤ n ∧ n ≤ 9223372036854775807) (j : Nat) (hj : j < 4) : hN ((n + 9223372036854775808) % 4294967296) j / 16777216 = ((numB n (3 - j)).toNat : Int) := by
  rcases (show j = 0 ∨ j = 1 ∨ j = 2 ∨ j = 3 by omega) with rfl | rfl | rfl | rfl
  · show hN _ 0 / _ = ((numB n 3).toNat : Int); have := numB_int n 3 hn.1 16777216 (by decide); simp only [hN]; omega
  · show hN _ 1 / _ = ((numB n 2).toNat : Int); have := numB_int n 2 hn.1 65536 (by decide); simp only [hN]; omega
  · show hN _ 2 / _ = ((numB n 1).toNat : Int); have := numB_int n 1 hn.1 256 (by decide); simp only [hN]; omega
  · show hN _ 3 / _ = ((numB n 0).toNat : Int); have := numB_int n 0 hn.1 1 (by decide); simp only [hN]; omega
theorem numK_take (n : Int) (j : Nat) (h : j < 8) : (numK n).take (j + 1) = (numK n).take j ++ [numB n (7 - j)] := by rw [List.take_add_one, numK_get n j h]; rfl
theorem numK_len (n : Int) (j : Nat) : ((numK n).take j).length ≤ 8 := by rw [List.length_take]; have : (numK n).length = 8 := rfl; omega
set_option maxHeartbeats 4000000 in
set_option maxRecDepth 100000 in
theorem refKey_numpos (b : Bool) (n : Int) (s : ByteArray) (m : Nat) (f : Nat → VT) (q : Nat) (g : Nat → ByteArray) (A : Option Addr) (c : Nat) (B : Option Addr) (d : Nat) (w : World) (ia : InV w (.mk 2 b n s m f q g) #[.int .i64 2, .bool b, .int .i64 n, .string s, .slice A m c, .slice B q d]) (hn : -9223372036854775808 ≤ n ∧ n ≤ 9223372036854775807) (Q R : Int) (hQ : n.tdiv 4294967296 = Q) (hR : n.tmod 4294967296 = R) (hr : ¬ R < 0) :
    Calls Tryd.prog 18 #[.agg #[.int .i64 2, .bool b, .int .i64 n, .string s, .slice A m c, .slice B q d]] w (MadeP (keyV (.mk 2 b n s m f q g)) w) := by
  have HKE := Lib.hid (show keyV (.mk 2 b n s m f q g) = 4 :: numK n by unfold keyV; rw [if_pos rfl])
  have hsp : n = 4294967296 * Q + R := by rw [← hQ, ← hR]; exact (Int.mul_tdiv_add_tmod n 4294967296).symm
  have hRb : -4294967296 < R ∧ R < 4294967296 := by
    rw [← hR]
    rcases Int.le_total 0 n with h | h
    · rw [Int.tmod_eq_emod_of_nonneg h]; omega
    · have e : n.tmod 4294967296 = -((-n).tmod 4294967296) := by rw [Int.neg_tmod]; omega
      rw [e, Int.tmod_eq_emod_of_nonneg (by omega)]; omega
  have hQb : -2147483649 ≤ Q ∧ Q ≤ 2147483648 := by omega
  obtain ⟨hR1, hR2⟩ := hRb
  obtain ⟨hQ1, hQ2⟩ := hQb
  have q1 : IntKind.i64.wrap (n.tdiv 4294967296) = Q := by rw [hQ]; exact wrap_in (by omega)
  have q2 : IntKind.i64.wrap (n.tmod 4294967296) = R := by rw [hR]; exact wrap_in (by omega)
  obtain ⟨TQ, hTQ⟩ : ∃ t, t = (n + 9223372036854775808) / 4294967296 := ⟨_, rfl⟩
  obtain ⟨TR, hTR⟩ : ∃ t, t = (n + 9223372036854775808) % 4294967296 := ⟨_, rfl⟩
  have HBQ := Lib.hid (high_byte n hn)
  have HBR := Lib.hid (low_byte n hn)
  have HLQ := Lib.hid (hN_in (T := (n + 9223372036854775808) / 4294967296) (by omega))
  have HLR := Lib.hid (hN_in (T := (n + 9223372036854775808) % 4294967296) (by omega))
  have e3 : Q + 2147483648 = TQ := by omega
  have e4 : TR = R := by omega
  rw [← hTQ] at HBQ HLQ
  rw [← hTR] at HBR HLR
  clear hTQ hTR hsp hn
  obtain ⟨W1, hW1⟩ : ∃ W1, W1 = w.alloc (.cells #[.int .i64 2, .bool b, .int .i64 n, .string s, .slice A m c, .slice B q d] 25) := ⟨_, rfl⟩
  have hz1 : W1.heap.size = w.heap.size + 1 := by rw [hW1]; simp
  have PW := Lib.hid (show ∀ W : World, Below W1.heap.size W1 W → Below w.heap.size w W ∧ KeepC w W from fun W hb => ⟨(boxed hW1 hb).2.2.2.2.2.2.1, (boxed hW1 hb).2.2.2.2.2.2.2⟩)
  have KS := Lib.hid (show ∀ W : World, Below W1.heap.size W1 W → W.cell? ⟨w.heap.size, 0, none⟩ = some (.int .i64 2) ∧ W.cell? ⟨w.heap.size, 1, none⟩ = some (.bool b) ∧ W.cell? ⟨w.heap.size, 2, none⟩ = some (.int .i64 n) ∧ W.cell? ⟨w.heap.size, 3, none⟩ = some (.string s) ∧ W.cell? ⟨w.heap.size, 4, none⟩ = some (.slice A m c) ∧ W.cell? ⟨w.heap.size, 5, none⟩ = some (.slice B q d) from fun W hb => by
    obtain ⟨a0, a1, a2, a3, a4, a5, _, _⟩ := boxed hW1 hb
    exact ⟨a0, a1, a2, a3, a4, a5⟩)
  have RA := Lib.hid (show Calls Tryd.prog 29 #[.agg #[.int .i64 2, .bool b, .int .i64 n, .string s, .slice A m c, .slice B q d]] W1 fun e w' => e = .returned (.int .i64 4) ∧ Below W1.heap.size W1 w' from by
    have qq := refRank_any (.mk 2 b n s m f q g) _ W1 (ia.keep (PW.out W1 (Below.refl _ _)).2) (by show (0 : Int) ≤ 2 ∧ (2 : Int) ≤ 5; decide)
    rw [show rankV (.mk 2 b n s m f q g) = 4 from rfl] at qq
    exact qq)
  have HZ1 := Lib.hid hz1
  have HW := Lib.hid hW1
  clear hW1 hz1 ia
  go_enter Tryd.func18, Tryd.ntmps18
  go_wp2_with fail
  rw [← HW.out]
  refine RA.out.mono ?_
  rintro e w2 ⟨rfl, l2⟩
  have L2 := Lib.hid l2
  have HO := Lib.hid (own_one w2 W1.heap.size 4 l2.size)
  have L3 := Lib.hid (l2.alloc l2.size (.cells #[.int .u8 4] 5))
  obtain ⟨a0, a1, a2, a3, a4, a5⟩ := KS.out _ L3.out
  clear l2
  obtain ⟨base, hbase⟩ : ∃ base, base = W1.heap.size := ⟨_, rfl⟩
  rw [← hbase] at HO
  have HBA := Lib.hid hbase
  clear hbase
  go_wp2_with fail
  go_quiet (fail)
  all_goals
    go_wp2_with fail
    go_loopw [3, 4, 6] (fun v hv i wr => ∃ j : Nat, j ≤ 4 ∧ i = .int .i64 j ∧ hv = .int .i64 (hN TQ j) ∧ OwnL wr base v ([4] ++ (numK n).take (j)) ∧ Below W1.heap.size W1 wr) (fun _ _ i _ => 4 - (intOf i).toNat)
    case atStart => exact ⟨0, by omega, rfl, by first | rfl | (go_num), by simpa using (HO.out.below below_refl_dN), below_dN L3.out⟩
    case round =>
      obtain ⟨j, hj, rfl, rfl, ho, hb1⟩ := hrel
      have HO1 := Lib.hid ho
      have HB := Lib.hid hb1
      have HZ := Lib.hid (show base ≤ wr.heap.size by rw [HBA.out]; exact hb1.size)
      clear ho hb1
      by_cases hlt : j < 4
      · have HS := Lib.hid (numK_take n (j) (by omega))
        have hlen := numK_len n (j)
        obtain ⟨h, hh⟩ : ∃ h, h = hN TQ j := ⟨_, rfl⟩
        obtain ⟨h0, h1⟩ : 0 ≤ h ∧ h < 4294967296 := by rw [hh]; exact HLQ.out j
        obtain ⟨x, hx⟩ : ∃ x, numB n (7 - (j)) = x := ⟨_, rfl⟩
        have ex : h / 16777216 = (x.toNat : Int) := by
          rw [← hx, hh]
          exact HBQ.out j hlt
        have hx0 : (0 : Int) ≤ (x.toNat : Int) := by omega
        have hx1 : (x.toNat : Int) < 256 := by have := UInt8.toNat_lt x; omega
        have HX := Lib.hid hx
        have HH := Lib.hid hh
        rw [← hh]
        have O1 := Lib.hid (HO1.out.below ((Below.refl _ _).alloc (Nat.le_refl _) (.cells #[.int .u8 (x.toNat : Int)] 5)))
        have B1 := Lib.hid (bytes_one wr x)
        have Z1 := Lib.hid (show base ≤ (wr.alloc (.cells #[.int .u8 (x.toNat : Int)] 5)).heap.size by simp only [World.size_alloc]; have := HZ.out; omega)
        clear hx hh
        go_wp2_with (at_builtin; refine wpList_app _ rfl (.tmp 35) (.tmp 39) 35 rfl Tryd.underlying35 u8infoAll base _ _ [x] rfl O1.out _ _ rfl B1.out (fun e => by cases e) (by simp; omega) Z1.out ?_)
        intro v1 w1 o1 l1
        have O2 := Lib.hid o1
        have B2 := Lib.hid ((HB.out.alloc HB.out.size (.cells #[.int .u8 (x.toNat : Int)] 5)).trans (show Below W1.heap.size _ w1 by rw [← HBA.out]; exact l1.below))
        clear o1 l1 ex
        go_wp2_with fail
        go_roundw
        case rel =>
          refine ⟨j + 1, by omega, by go_num, by rw [hN, ← HH.out], ?_, B2.out⟩
          have := O2.out
          rw [show j + 1 = j + 1 by omega, HS.out, HX.out]
          first | exact this | (rw [← List.append_assoc]; exact this) | simpa using this
        case measure => simp [intOf]; omega
      · have hj4 : j = 4 := by omega
        have HO2 := Lib.hid (show OwnL wr base _ ([4] ++ (numK n).take 4) by have := HO1.out; rw [hj4] at this; exact this)
        have HB2 := HB
        clear HO1 HB HZ hj4
        go_wp2_with fail
        go_loopw [3, 5, 7] (fun v hv i wr => ∃ j : Nat, j ≤ 4 ∧ i = .int .i64 j ∧ hv = .int .i64 (hN TR j) ∧ OwnL wr base v ([4] ++ (numK n).take (4 + j)) ∧ Below W1.heap.size W1 wr) (fun _ _ i _ => 4 - (intOf i).toNat)
        case atStart => exact ⟨0, by omega, rfl, by first | rfl | (rw [hN, e4]), by simpa using HO2.out, HB2.out⟩
        case round =>
          obtain ⟨j, hj, rfl, rfl, ho, hb1⟩ := hrel
          have HO1 := Lib.hid ho
          have HB := Lib.hid hb1
          have HZ := Lib.hid (show base ≤ wr.heap.size by rw [HBA.out]; exact hb1.size)
          clear ho hb1
          by_cases hlt : j < 4
          · have HS := Lib.hid (numK_take n (4 + j) (by omega))
            have hlen := numK_len n (4 + j)
            obtain ⟨h, hh⟩ : ∃ h, h = hN TR j := ⟨_, rfl⟩
            obtain ⟨h0, h1⟩ : 0 ≤ h ∧ h < 4294967296 := by rw [hh]; exact HLR.out j
            obtain ⟨x, hx⟩ : ∃ x, numB n (7 - (4 + j)) = x := ⟨_, rfl⟩
            have ex : h / 16777216 = (x.toNat : Int) := by
              rw [← hx, hh, show 7 - (4 + j) = 3 - j by omega]
              exact HBR.out j hlt
            have hx0 : (0 : Int) ≤ (x.toNat : Int) := by omega
            have hx1 : (x.toNat : Int) < 256 := by have := UInt8.toNat_lt x; omega
            have HX := Lib.hid hx
            have HH := Lib.hid hh
            rw [← hh]
            have O1 := Lib.hid (HO1.out.below ((Below.refl _ _).alloc (Nat.le_refl _) (.cells #[.int .u8 (x.toNat : Int)] 5)))
            have B1 := Lib.hid (bytes_one wr x)
            have Z1 := Lib.hid (show base ≤ (wr.alloc (.cells #[.int .u8 (x.toNat : Int)] 5)).heap.size by simp only [World.size_alloc]; have := HZ.out; omega)
            clear hx hh
            go_wp2_with (at_builtin; refine wpList_app _ rfl (.tmp 48) (.tmp 52) 35 rfl Tryd.underlying35 u8infoAll base _ _ [x] rfl O1.out _ _ rfl B1.out (fun e => by cases e) (by simp; omega) Z1.out ?_)
            intro v1 w1 o1 l1
            have O2 := Lib.hid o1
            have B2 := Lib.hid ((HB.out.alloc HB.out.size (.cells #[.int .u8 (x.toNat : Int)] 5)).trans (show Below W1.heap.size _ w1 by rw [← HBA.out]; exact l1.below))
            clear o1 l1 ex
            go_wp2_with fail
            go_roundw
            case rel =>
              refine ⟨j + 1, by omega, by go_num, by rw [hN, ← HH.out], ?_, B2.out⟩
              have := O2.out
              rw [show 4 + (j + 1) = 4 + j + 1 by omega, HS.out, HX.out]
              first | exact this | (rw [← List.append_assoc]; exact this) | simpa using this
            case measure => simp [intOf]; omega
          · obtain rfl : j = 4 := by omega
            go_wp2_with fail
            go_ret
            refine ⟨_, rfl, OwnL.lower (b := base) ?_ (by have := HZ1.out; have := HBA.out; omega), (PW.out _ HB.out).1⟩
            have := HO1.out
            rw [HKE.out]
            rw [show (numK n).take (4 + 4) = numK n from rfl] at this
            exact this
set_option maxHeartbeats 4000000 in
set_option maxRecDepth 100000 in
theorem refKey_numneg (b : Bool) (n : Int) (s : ByteArray) (m : Nat) (f : Nat → VT) (q : Nat) (g : Nat → ByteArray) (A : Option Addr) (c : Nat) (B : Option Addr) (d : Nat) (w : World) (ia : InV w (.mk 2 b n s m f q g) #[.int .i64 2, .bool b, .int .i64 n, .string s, .slice A m c, .slice B q d]) (hn : -9223372036854775808 ≤ n ∧ n ≤ 9223372036854775807) (Q R : Int) (hQ : n.tdiv 4294967296 = Q) (hR : n.tmod 4294967296 = R) (hr : R < 0) :
    Calls Tryd.prog 18 #[.agg #[.int .i64 2, .bool b, .int .i64 n, .string s, .slice A m c, .slice B q d]] w (MadeP (keyV (.mk 2 b n s m f q g)) w) := by
  have HKE := Lib.hid (show keyV (.mk 2 b n s m f q g) = 4 :: numK n by unfold keyV; rw [if_pos rfl])
  have hsp : n = 4294967296 * Q + R := by rw [← hQ, ← hR]; exact (Int.mul_tdiv_add_tmod n 4294967296).symm
  have hRb : -4294967296 < R ∧ R < 4294967296 := by
    rw [← hR]
    rcases Int.le_total 0 n with h | h
    · rw [Int.tmod_eq_emod_of_nonneg h]; omega
    · have e : n.tmod 4294967296 = -((-n).tmod 4294967296) := by rw [Int.neg_tmod]; omega
      rw [e, Int.tmod_eq_emod_of_nonneg (by omega)]; omega
  have hQb : -2147483649 ≤ Q ∧ Q ≤ 2147483648 := by omega
  obtain ⟨hR1, hR2⟩ := hRb
  obtain ⟨hQ1, hQ2⟩ := hQb
  have q1 : IntKind.i64.wrap (n.tdiv 4294967296) = Q := by rw [hQ]; exact wrap_in (by omega)
  have q2 : IntKind.i64.wrap (n.tmod 4294967296) = R := by rw [hR]; exact wrap_in (by omega)
  obtain ⟨TQ, hTQ⟩ : ∃ t, t = (n + 9223372036854775808) / 4294967296 := ⟨_, rfl⟩
  obtain ⟨TR, hTR⟩ : ∃ t, t = (n + 9223372036854775808) % 4294967296 := ⟨_, rfl⟩
  have HBQ := Lib.hid (high_byte n hn)
  have HBR := Lib.hid (low_byte n hn)
  have HLQ := Lib.hid (hN_in (T := (n + 9223372036854775808) / 4294967296) (by omega))
  have HLR := Lib.hid (hN_in (T := (n + 9223372036854775808) % 4294967296) (by omega))
  have e3 : Q - 1 + 2147483648 = TQ := by omega
  have e4 : R + 4294967296 = TR := by omega
  rw [← hTQ] at HBQ HLQ
  rw [← hTR] at HBR HLR
  clear hTQ hTR hsp hn
  obtain ⟨W1, hW1⟩ : ∃ W1, W1 = w.alloc (.cells #[.int .i64 2, .bool b, .int .i64 n, .string s, .slice A m c, .slice B q d] 25) := ⟨_, rfl⟩
  have hz1 : W1.heap.size = w.heap.size + 1 := by rw [hW1]; simp
  have PW := Lib.hid (show ∀ W : World, Below W1.heap.size W1 W → Below w.heap.size w W ∧ KeepC w W from fun W hb => ⟨(boxed hW1 hb).2.2.2.2.2.2.1, (boxed hW1 hb).2.2.2.2.2.2.2⟩)
  have KS := Lib.hid (show ∀ W : World, Below W1.heap.size W1 W → W.cell? ⟨w.heap.size, 0, none⟩ = some (.int .i64 2) ∧ W.cell? ⟨w.heap.size, 1, none⟩ = some (.bool b) ∧ W.cell? ⟨w.heap.size, 2, none⟩ = some (.int .i64 n) ∧ W.cell? ⟨w.heap.size, 3, none⟩ = some (.string s) ∧ W.cell? ⟨w.heap.size, 4, none⟩ = some (.slice A m c) ∧ W.cell? ⟨w.heap.size, 5, none⟩ = some (.slice B q d) from fun W hb => by
    obtain ⟨a0, a1, a2, a3, a4, a5, _, _⟩ := boxed hW1 hb
    exact ⟨a0, a1, a2, a3, a4, a5⟩)
  have RA := Lib.hid (show Calls Tryd.prog 29 #[.agg #[.int .i64 2, .bool b, .int .i64 n, .string s, .slice A m c, .slice B q d]] W1 fun e w' => e = .returned (.int .i64 4) ∧ Below W1.heap.size W1 w' from by
    have qq := refRank_any (.mk 2 b n s m f q g) _ W1 (ia.keep (PW.out W1 (Below.refl _ _)).2) (by show (0 : Int) ≤ 2 ∧ (2 : Int) ≤ 5; decide)
    rw [show rankV (.mk 2 b n s m f q g) = 4 from rfl] at qq
    exact qq)
  have HZ1 := Lib.hid hz1
  have HW := Lib.hid hW1
  clear hW1 hz1 ia
  go_enter Tryd.func18, Tryd.ntmps18
  go_wp2_with fail
  rw [← HW.out]
  refine RA.out.mono ?_
  rintro e w2 ⟨rfl, l2⟩
  have L2 := Lib.hid l2
  have HO := Lib.hid (own_one w2 W1.heap.size 4 l2.size)
  have L3 := Lib.hid (l2.alloc l2.size (.cells #[.int .u8 4] 5))
  obtain ⟨a0, a1, a2, a3, a4, a5⟩ := KS.out _ L3.out
  clear l2
  obtain ⟨base, hbase⟩ : ∃ base, base = W1.heap.size := ⟨_, rfl⟩
  rw [← hbase] at HO
  have HBA := Lib.hid hbase
  clear hbase
  go_wp2_with fail
  go_quiet (fail)
  all_goals
    go_wp2_with fail
    go_loopw [3, 4, 6] (fun v hv i wr => ∃ j : Nat, j ≤ 4 ∧ i = .int .i64 j ∧ hv = .int .i64 (hN TQ j) ∧ OwnL wr base v ([4] ++ (numK n).take (j)) ∧ Below W1.heap.size W1 wr) (fun _ _ i _ => 4 - (intOf i).toNat)
    case atStart => exact ⟨0, by omega, rfl, by first | rfl | (go_num), by simpa using (HO.out.below below_refl_dN), below_dN L3.out⟩
    case round =>
      obtain ⟨j, hj, rfl, rfl, ho, hb1⟩ := hrel
      have HO1 := Lib.hid ho
      have HB := Lib.hid hb1
      have HZ := Lib.hid (show base ≤ wr.heap.size by rw [HBA.out]; exact hb1.size)
      clear ho hb1
      by_cases hlt : j < 4
      · have HS := Lib.hid (numK_take n (j) (by omega))
        have hlen := numK_len n (j)
        obtain ⟨h, hh⟩ : ∃ h, h = hN TQ j := ⟨_, rfl⟩
        obtain ⟨h0, h1⟩ : 0 ≤ h ∧ h < 4294967296 := by rw [hh]; exact HLQ.out j
        obtain ⟨x, hx⟩ : ∃ x, numB n (7 - (j)) = x := ⟨_, rfl⟩
        have ex : h / 16777216 = (x.toNat : Int) := by
          rw [← hx, hh]
          exact HBQ.out j hlt
        have hx0 : (0 : Int) ≤ (x.toNat : Int) := by omega
        have hx1 : (x.toNat : Int) < 256 := by have := UInt8.toNat_lt x; omega
        have HX := Lib.hid hx
        have HH := Lib.hid hh
        rw [← hh]
        have O1 := Lib.hid (HO1.out.below ((Below.refl _ _).alloc (Nat.le_refl _) (.cells #[.int .u8 (x.toNat : Int)] 5)))
        have B1 := Lib.hid (bytes_one wr x)
        have Z1 := Lib.hid (show base ≤ (wr.alloc (.cells #[.int .u8 (x.toNat : Int)] 5)).heap.size by simp only [World.size_alloc]; have := HZ.out; omega)
        clear hx hh
        go_wp2_with (at_builtin; refine wpList_app _ rfl (.tmp 35) (.tmp 39) 35 rfl Tryd.underlying35 u8infoAll base _ _ [x] rfl O1.out _ _ rfl B1.out (fun e => by cases e) (by simp; omega) Z1.out ?_)
        intro v1 w1 o1 l1
        have O2 := Lib.hid o1
        have B2 := Lib.hid ((HB.out.alloc HB.out.size (.cells #[.int .u8 (x.toNat : Int)] 5)).trans (show Below W1.heap.size _ w1 by rw [← HBA.out]; exact l1.below))
        clear o1 l1 ex
        go_wp2_with fail
        go_roundw
        case rel =>
          refine ⟨j + 1, by omega, by go_num, by rw [hN, ← HH.out], ?_, B2.out⟩
          have := O2.out
          rw [show j + 1 = j + 1 by omega, HS.out, HX.out]
          first | exact this | (rw [← List.append_assoc]; exact this) | simpa using this
        case measure => simp [intOf]; omega
      · have hj4 : j = 4 := by omega
        have HO2 := Lib.hid (show OwnL wr base _ ([4] ++ (numK n).take 4) by have := HO1.out; rw [hj4] at this; exact this)
        have HB2 := HB
        clear HO1 HB HZ hj4
        go_wp2_with fail
        go_loopw [3, 5, 7] (fun v hv i wr => ∃ j : Nat, j ≤ 4 ∧ i = .int .i64 j ∧ hv = .int .i64 (hN TR j) ∧ OwnL wr base v ([4] ++ (numK n).take (4 + j)) ∧ Below W1.heap.size W1 wr) (fun _ _ i _ => 4 - (intOf i).toNat)
        case atStart => exact ⟨0, by omega, rfl, by first | rfl | (rw [hN, e4]), by simpa using HO2.out, HB2.out⟩
        case round =>
          obtain ⟨j, hj, rfl, rfl, ho, hb1⟩ := hrel
          have HO1 := Lib.hid ho
          have HB := Lib.hid hb1
          have HZ := Lib.hid (show base ≤ wr.heap.size by rw [HBA.out]; exact hb1.size)
          clear ho hb1
          by_cases hlt : j < 4
          · have HS := Lib.hid (numK_take n (4 + j) (by omega))
            have hlen := numK_len n (4 + j)
            obtain ⟨h, hh⟩ : ∃ h, h = hN TR j := ⟨_, rfl⟩
            obtain ⟨h0, h1⟩ : 0 ≤ h ∧ h < 4294967296 := by rw [hh]; exact HLR.out j
            obtain ⟨x, hx⟩ : ∃ x, numB n (7 - (4 + j)) = x := ⟨_, rfl⟩
            have ex : h / 16777216 = (x.toNat : Int) := by
              rw [← hx, hh, show 7 - (4 + j) = 3 - j by omega]
              exact HBR.out j hlt
            have hx0 : (0 : Int) ≤ (x.toNat : Int) := by omega
            have hx1 : (x.toNat : Int) < 256 := by have := UInt8.toNat_lt x; omega
            have HX := Lib.hid hx
            have HH := Lib.hid hh
            rw [← hh]
            have O1 := Lib.hid (HO1.out.below ((Below.refl _ _).alloc (Nat.le_refl _) (.cells #[.int .u8 (x.toNat : Int)] 5)))
            have B1 := Lib.hid (bytes_one wr x)
            have Z1 := Lib.hid (show base ≤ (wr.alloc (.cells #[.int .u8 (x.toNat : Int)] 5)).heap.size by simp only [World.size_alloc]; have := HZ.out; omega)
            clear hx hh
            go_wp2_with (at_builtin; refine wpList_app _ rfl (.tmp 48) (.tmp 52) 35 rfl Tryd.underlying35 u8infoAll base _ _ [x] rfl O1.out _ _ rfl B1.out (fun e => by cases e) (by simp; omega) Z1.out ?_)
            intro v1 w1 o1 l1
            have O2 := Lib.hid o1
            have B2 := Lib.hid ((HB.out.alloc HB.out.size (.cells #[.int .u8 (x.toNat : Int)] 5)).trans (show Below W1.heap.size _ w1 by rw [← HBA.out]; exact l1.below))
            clear o1 l1 ex
            go_wp2_with fail
            go_roundw
            case rel =>
              refine ⟨j + 1, by omega, by go_num, by rw [hN, ← HH.out], ?_, B2.out⟩
              have := O2.out
              rw [show 4 + (j + 1) = 4 + j + 1 by omega, HS.out, HX.out]
              first | exact this | (rw [← List.append_assoc]; exact this) | simpa using this
            case measure => simp [intOf]; omega
          · obtain rfl : j = 4 := by omega
            go_wp2_with fail
            go_ret
            refine ⟨_, rfl, OwnL.lower (b := base) ?_ (by have := HZ1.out; have := HBA.out; omega), (PW.out _ HB.out).1⟩
            have := HO1.out
            rw [HKE.out]
            rw [show (numK n).take (4 + 4) = numK n from rfl] at this
            exact this
end Go.Proofs.YtpmhefdalhohdaaDoor
