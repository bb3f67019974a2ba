/- order's texts and numbers in a key. -/
import Derived.Test.YtpmhefdalhohdaaDoorOBytes
import Derived.Test.YtpmhefdalhohdaaDoorOCmp
import Derived.Laws.BitsAllLaws
namespace Go.Proofs.YtpmhefdalhohdaaDoor
open Go.RowKit
set_option linter.unusedVariables false

/-- What is appended to some bytes of the call's own. -/
def AppP (base : Nat) (w : World) (sv : Value) (L : List UInt8) (e : Ending) (w' : World) : Prop := ∃ v', e = .returned v' ∧ OwnL w' base v' L ∧ Apd base w sv w' v'
theorem esc_app : ∀ (a b : List UInt8), esc (a ++ b) = esc a ++ esc b
  | [], b => rfl
  | c :: r, b => by
    rw [List.cons_append, esc, esc, esc_app r b]
    split <;> rfl
theorem esc_len : ∀ (a : List UInt8), (esc a).length ≤ 2 * a.length
  | [] => by simp [esc]
  | c :: r => by
    have := esc_len r
    rw [esc]
    split <;> simp <;> omega
theorem bytes_one (w : World) (x : UInt8) : Bytes (w.alloc (.cells #[.int .u8 (x.toNat : Int)] 5)) (some ⟨w.heap.size, 0, none⟩) [x].length (lF [x]) :=
  bytes_new w _ [x] (fun i hi => by
    have : i = 0 := by simpa using hi
    subst this
    rfl) (by simp)
theorem take_byte (s : ByteArray) (j : Nat) (h : j < s.size) : s.data.toList.take (j + 1) = s.data.toList.take j ++ [s[j]'h] := by
  rw [List.take_add_one, List.getElem?_eq_getElem (by rw [Array.length_toList]; exact h)]
  rfl
theorem esc_len_take (s : ByteArray) (j : Nat) : (esc (s.data.toList.take j)).length ≤ 2 * s.size := by
  have h1 := esc_len (s.data.toList.take j)
  have h2 : (s.data.toList.take j).length ≤ s.size := by rw [List.length_take, Array.length_toList]; exact Nat.min_le_right _ _
  omega
set_option maxHeartbeats 2000000 in
set_option maxRecDepth 100000 in
theorem appendText_any (sv : Value) (l : List UInt8) (s : ByteArray) (base : Nat) (w : World) (ho : OwnL w base sv l) (hb : base ≤ w.heap.size) (hl : l.length + 2 * s.size + 2 ≤ 1000000000000) :
    Calls Tryd.prog 50 #[sv, .string s] w (AppP base w sv (l ++ (esc s.data.toList ++ [0, 1]))) := by
  have HO := Lib.hid ho
  clear ho
  go_enter Tryd.func50, Tryd.ntmps50
  go_wp2_with fail
  go_loopw [0, 8] (fun v i wr => ∃ j : Nat, j ≤ s.size ∧ i = .int .i64 j ∧ OwnL wr base v (l ++ esc (s.data.toList.take j)) ∧ Apd base w sv wr v ∧ base ≤ wr.heap.size) (fun _ i _ => s.size - (intOf i).toNat)
  case atStart => exact ⟨0, by omega, rfl, by simpa [esc] using HO.out, Apd.refl _ _ _, hb⟩
  case round =>
    obtain ⟨j, hj, rfl, ho, hb1, hz⟩ := hrel
    have HO1 := Lib.hid ho
    have HB := Lib.hid hb1
    have HZ := Lib.hid hz
    have hel := esc_len_take s j
    clear ho hb1 hz
    by_cases hlt : j < s.size
    · obtain ⟨x, hx⟩ : ∃ x, s[j]'hlt = x := ⟨_, rfl⟩
      have HT := Lib.hid (take_byte s j hlt)
      have O1 := Lib.hid (HO1.out.below ((Below.refl _ _).alloc (Nat.le_refl _) (.cells #[.int .u8 (x.toNat : Int)] 5)))
      have B1 := Lib.hid (bytes_one wr x)
      have Z1 := Lib.hid (show base ≤ (wr.alloc (.cells #[.int .u8 (x.toNat : Int)] 5)).heap.size by simp only [World.size_alloc]; have := HZ.out; omega)
      go_wp2_with (at_builtin; refine wpList_app _ rfl (.tmp 11) (.tmp 15) 35 rfl Tryd.underlying35 u8infoAll base _ _ [x] rfl O1.out _ _ rfl B1.out (fun e => by cases e) (by simp; omega) Z1.out ?_)
      intro v1 w1 o1 l1
      have O2 := Lib.hid o1
      have B2 := Lib.hid ((HB.out.alloc HZ.out _).trans l1)
      have Z2 := Lib.hid (Nat.le_trans Z1.out l1.size)
      clear o1 l1
      by_cases h0 : x = 0
      · subst h0
        have O3 := Lib.hid (O2.out.below ((Below.refl _ _).alloc (Nat.le_refl _) (.cells #[.int .u8 255] 5)))
        have B3 := Lib.hid (bytes_one w1 255)
        have Z3 := Lib.hid (show base ≤ (w1.alloc (.cells #[.int .u8 255] 5)).heap.size by simp only [World.size_alloc]; have := Z2.out; omega)
        go_wp2_with (at_builtin; refine wpList_app _ rfl (.tmp 21) (.tmp 22) 35 rfl Tryd.underlying35 u8infoAll base _ _ [255] rfl O3.out _ _ rfl B3.out (fun e => by cases e) (by simp; omega) Z3.out ?_)
        intro v2 w2 o2 l2
        have O4 := Lib.hid o2
        have B4 := Lib.hid ((B2.out.alloc Z2.out _).trans l2)
        have Z4 := Lib.hid (Nat.le_trans Z3.out l2.size)
        have HX := Lib.hid hx
        clear o2 l2 hx
        go_wp2_with fail
        go_roundw
        case rel =>
          refine ⟨j + 1, by omega, by go_num, ?_, B4.out, Z4.out⟩
          rw [HT.out, HX.out, esc_app]
          have := O4.out
          simpa [esc] using this
        case measure => simp [intOf]; omega
      · have h1 : ((x.toNat : Int) == 0) = false := by
          simp
          intro e
          exact h0 (UInt8.toNat_inj.1 (by simpa using e))
        have HX := Lib.hid hx
        have H0 := Lib.hid h0
        clear h0
        go_wp2_with fail
        go_roundw
        case rel =>
          refine ⟨j + 1, by omega, by go_num, ?_, B2.out, Z2.out⟩
          rw [HT.out, HX.out, esc_app]
          have := O2.out
          simpa [esc, H0.out] using this
        case measure => simp [intOf]; omega
    · obtain rfl : j = s.size := by omega
      have HF := Lib.hid (show s.data.toList.take s.size = s.data.toList from List.take_of_length_le (by rw [Array.length_toList]; exact Nat.le_refl _))
      have O3 := Lib.hid (HO1.out.below ((Below.refl _ _).alloc (Nat.le_refl _) (.cells #[.int .u8 0, .int .u8 1] 5)))
      have B3 := Lib.hid (bytes_new wr #[.int .u8 0, .int .u8 1] [0, 1] (fun i hi => by
        rcases (show i = 0 ∨ i = 1 by simp at hi; omega) with rfl | rfl <;> rfl) (by simp))
      have Z3 := Lib.hid (show base ≤ (wr.alloc (.cells #[.int .u8 0, .int .u8 1] 5)).heap.size by simp only [World.size_alloc]; have := HZ.out; omega)
      go_wp2_with (at_builtin; refine wpList_app _ rfl (.tmp 25) (.tmp 26) 35 rfl Tryd.underlying35 u8infoAll base _ _ [0, 1] rfl O3.out _ _ rfl B3.out (fun e => by cases e) (by simp; omega) Z3.out ?_)
      intro v2 w2 o2 l2
      have O4 := Lib.hid o2
      have B4 := Lib.hid ((HB.out.alloc HZ.out _).trans l2)
      clear o2 l2
      go_wp2_with fail
      go_ret
      refine ⟨_, rfl, ?_, B4.out⟩
      have := O4.out
      rw [HF.out] at this
      simpa using this
/-- The number with its sign turned. -/
theorem turned (n : Int) (h : -9223372036854775808 ≤ n ∧ n ≤ 9223372036854775807) : bits .xor .u64 (IntKind.u64.wrap n) 9223372036854775808 = n + 9223372036854775808 := by
  have hw : IntKind.u64.wrap n = if n < 0 then n + 18446744073709551616 else n := by
    show n % 18446744073709551616 = _
    split <;> omega
  have h0 : 0 ≤ IntKind.u64.wrap n ∧ IntKind.u64.wrap n < 18446744073709551616 := by rw [hw]; split <;> omega
  rw [u64_xor _ _ h0.1 h0.2 (by omega) (by omega), hw]
  have key : ∀ a : Nat, a < 18446744073709551616 → a ^^^ 9223372036854775808 = if a < 9223372036854775808 then a + 9223372036854775808 else a - 9223372036854775808 := by
    intro a ha
    have d := Nat.xor_div_two_pow (a := a) (b := 9223372036854775808) (n := 63)
    have m := Nat.xor_mod_two_pow (a := a) (b := 9223372036854775808) (n := 63)
    have e1 : (9223372036854775808 : Nat) / 2 ^ 63 = 1 := by decide
    have e2 : (9223372036854775808 : Nat) % 2 ^ 63 = 0 := by decide
    rw [e1] at d
    rw [e2, Nat.xor_zero] at m
    have e3 : (2 : Nat) ^ 63 = 9223372036854775808 := by decide
    rw [e3] at d m
    by_cases hl : a < 9223372036854775808
    · rw [if_pos hl]
      have e4 : a / 9223372036854775808 = 0 := by omega
      rw [e4, show (0 : Nat) ^^^ 1 = 1 by decide] at d
      omega
    · rw [if_neg hl]
      have e4 : a / 9223372036854775808 = 1 := by omega
      rw [e4, show (1 : Nat) ^^^ 1 = 0 by decide] at d
      omega
  split
  · rw [show (9223372036854775808 : Int).toNat = 9223372036854775808 from rfl, key _ (by omega)]
    split <;> omega
  · rw [show (9223372036854775808 : Int).toNat = 9223372036854775808 from rfl, key _ (by omega)]
    split <;> omega
theorem numB_int (n : Int) (j : Nat) (h : -9223372036854775808 ≤ n) (K : Int) (hK : K = ((256 ^ j : Nat) : Int)) : (n + 9223372036854775808) / K % 256 = ((numB n j).toNat : Int) := by
  unfold numB
  have : 0 ≤ n + 9223372036854775808 := by omega
  obtain ⟨N, hN⟩ := Int.eq_ofNat_of_zero_le this
  rw [hN, hK]
  simp
theorem numK_get (n : Int) (j : Nat) (h : j < 8) : (numK n)[j]? = some (numB n (7 - j)) := by
  rcases (show j = 0 ∨ j = 1 ∨ j = 2 ∨ j = 3 ∨ j = 4 ∨ j = 5 ∨ j = 6 ∨ j = 7 by omega) with rfl | rfl | rfl | rfl | rfl | rfl | rfl | rfl <;> rfl
set_option maxHeartbeats 4000000 in
set_option maxRecDepth 100000 in
theorem appendNumber_any (sv : Value) (l : List UInt8) (n : Int) (hn : -9223372036854775808 ≤ n ∧ n ≤ 9223372036854775807) (base : Nat) (w : World) (ho : OwnL w base sv l) (hb : base ≤ w.heap.size) (hl : l.length ≤ 1000000000000) :
    Calls Tryd.prog 49 #[sv, .int .i64 n] w (AppP base w sv (l ++ numK n)) := by
  have HO := Lib.hid ho
  have ht := turned n hn
  obtain ⟨T, hT⟩ : ∃ T, n + 9223372036854775808 = T := ⟨_, rfl⟩
  have t0 : 0 ≤ T := by omega
  have t1 : T < 18446744073709551616 := by omega
  have HN := Lib.hid hn
  have HT := Lib.hid hT
  rw [hT] at ht
  clear ho hT hn
  go_enter Tryd.func49, Tryd.ntmps49
  go_wp2_with fail
  go_loopw [0, 10] (fun v i wr => ∃ j : Nat, j ≤ 8 ∧ i = .int .i64 j ∧ OwnL wr base v (l ++ (numK n).take j) ∧ Apd base w sv wr v ∧ base ≤ wr.heap.size) (fun _ i _ => 8 - (intOf i).toNat)
  case atStart => exact ⟨0, by omega, rfl, by simpa using HO.out, Apd.refl _ _ _, hb⟩
  case round =>
    obtain ⟨j, hj, rfl, ho, hb1, hz⟩ := hrel
    have HO1 := Lib.hid ho
    have HB := Lib.hid hb1
    have HZ := Lib.hid hz
    clear ho hb1 hz
    by_cases hlt : j < 8
    · have HS := Lib.hid (show (numK n).take (j + 1) = (numK n).take j ++ [numB n (7 - j)] by rw [List.take_add_one, numK_get n j hlt]; rfl)
      have hlen : ((numK n).take j).length ≤ 8 := by rw [List.length_take]; have : (numK n).length = 8 := rfl; omega
      rcases (show j = 0 ∨ j = 1 ∨ j = 2 ∨ j = 3 ∨ j = 4 ∨ j = 5 ∨ j = 6 ∨ j = 7 by omega) with rfl | rfl | rfl | rfl | rfl | rfl | rfl | rfl
      · have ex := numB_int n 7 HN.out.1 72057594037927936 (by decide)
        rw [HT.out] at ex
        obtain ⟨x, hx⟩ : ∃ x, numB n 7 = x := ⟨_, rfl⟩
        rw [hx] at ex
        replace ex : T / 72057594037927936 = (x.toNat : Int) := by omega
        have HX := Lib.hid (show (numK n).take 1 = (numK n).take 0 ++ [x] from HS.out.trans (by rw [show 7 - 0 = 7 from rfl, hx]))
        have O1 := Lib.hid (HO1.out.below ((Below.refl _ _).alloc (Nat.le_refl _) (.cells #[.int .u8 (x.toNat : Int)] 5)))
        have B1 := Lib.hid (bytes_one wr x)
        have Z1 := Lib.hid (show base ≤ (wr.alloc (.cells #[.int .u8 (x.toNat : Int)] 5)).heap.size by simp only [World.size_alloc]; have := HZ.out; omega)
        clear hx
        go_wp2_with (at_builtin; refine wpList_app _ rfl (.tmp 13) (.tmp 20) 35 rfl Tryd.underlying35 u8infoAll base _ _ [x] rfl O1.out _ _ rfl B1.out (fun e => by cases e) (by simp; omega) Z1.out ?_)
        intro v1 w1 o1 l1
        have O2 := Lib.hid o1
        have B2 := Lib.hid ((HB.out.alloc HZ.out _).trans l1)
        have Z2 := Lib.hid (Nat.le_trans Z1.out l1.size)
        clear o1 l1 ex
        go_wp2_with fail
        go_roundw
        case rel =>
          refine ⟨1, by omega, by go_num, ?_, B2.out, Z2.out⟩
          have := O2.out
          rw [HX.out]
          first | exact this | (rw [← List.append_assoc]; exact this) | simpa using this
        case measure => simp [intOf]
      · have ex := numB_int n 6 HN.out.1 281474976710656 (by decide)
        rw [HT.out] at ex
        obtain ⟨x, hx⟩ : ∃ x, numB n 6 = x := ⟨_, rfl⟩
        rw [hx] at ex
        have HX := Lib.hid (show (numK n).take 2 = (numK n).take 1 ++ [x] from HS.out.trans (by rw [show 7 - 1 = 6 from rfl, hx]))
        have O1 := Lib.hid (HO1.out.below ((Below.refl _ _).alloc (Nat.le_refl _) (.cells #[.int .u8 (x.toNat : Int)] 5)))
        have B1 := Lib.hid (bytes_one wr x)
        have Z1 := Lib.hid (show base ≤ (wr.alloc (.cells #[.int .u8 (x.toNat : Int)] 5)).heap.size by simp only [World.size_alloc]; have := HZ.out; omega)
        clear hx
        go_wp2_with (at_builtin; refine wpList_app _ rfl (.tmp 13) (.tmp 20) 35 rfl Tryd.underlying35 u8infoAll base _ _ [x] rfl O1.out _ _ rfl B1.out (fun e => by cases e) (by simp; omega) Z1.out ?_)
        intro v1 w1 o1 l1
        have O2 := Lib.hid o1
        have B2 := Lib.hid ((HB.out.alloc HZ.out _).trans l1)
        have Z2 := Lib.hid (Nat.le_trans Z1.out l1.size)
        clear o1 l1 ex
        go_wp2_with fail
        go_roundw
        case rel =>
          refine ⟨2, by omega, by go_num, ?_, B2.out, Z2.out⟩
          have := O2.out
          rw [HX.out]
          first | exact this | (rw [← List.append_assoc]; exact this) | simpa using this
        case measure => simp [intOf]
      · have ex := numB_int n 5 HN.out.1 1099511627776 (by decide)
        rw [HT.out] at ex
        obtain ⟨x, hx⟩ : ∃ x, numB n 5 = x := ⟨_, rfl⟩
        rw [hx] at ex
        have HX := Lib.hid (show (numK n).take 3 = (numK n).take 2 ++ [x] from HS.out.trans (by rw [show 7 - 2 = 5 from rfl, hx]))
        have O1 := Lib.hid (HO1.out.below ((Below.refl _ _).alloc (Nat.le_refl _) (.cells #[.int .u8 (x.toNat : Int)] 5)))
        have B1 := Lib.hid (bytes_one wr x)
        have Z1 := Lib.hid (show base ≤ (wr.alloc (.cells #[.int .u8 (x.toNat : Int)] 5)).heap.size by simp only [World.size_alloc]; have := HZ.out; omega)
        clear hx
        go_wp2_with (at_builtin; refine wpList_app _ rfl (.tmp 13) (.tmp 20) 35 rfl Tryd.underlying35 u8infoAll base _ _ [x] rfl O1.out _ _ rfl B1.out (fun e => by cases e) (by simp; omega) Z1.out ?_)
        intro v1 w1 o1 l1
        have O2 := Lib.hid o1
        have B2 := Lib.hid ((HB.out.alloc HZ.out _).trans l1)
        have Z2 := Lib.hid (Nat.le_trans Z1.out l1.size)
        clear o1 l1 ex
        go_wp2_with fail
        go_roundw
        case rel =>
          refine ⟨3, by omega, by go_num, ?_, B2.out, Z2.out⟩
          have := O2.out
          rw [HX.out]
          first | exact this | (rw [← List.append_assoc]; exact this) | simpa using this
        case measure => simp [intOf]
      · have ex := numB_int n 4 HN.out.1 4294967296 (by decide)
        rw [HT.out] at ex
        obtain ⟨x, hx⟩ : ∃ x, numB n 4 = x := ⟨_, rfl⟩
        rw [hx] at ex
        have HX := Lib.hid (show (numK n).take 4 = (numK n).take 3 ++ [x] from HS.out.trans (by rw [show 7 - 3 = 4 from rfl, hx]))
        have O1 := Lib.hid (HO1.out.below ((Below.refl _ _).alloc (Nat.le_refl _) (.cells #[.int .u8 (x.toNat : Int)] 5)))
        have B1 := Lib.hid (bytes_one wr x)
        have Z1 := Lib.hid (show base ≤ (wr.alloc (.cells #[.int .u8 (x.toNat : Int)] 5)).heap.size by simp only [World.size_alloc]; have := HZ.out; omega)
        clear hx
        go_wp2_with (at_builtin; refine wpList_app _ rfl (.tmp 13) (.tmp 20) 35 rfl Tryd.underlying35 u8infoAll base _ _ [x] rfl O1.out _ _ rfl B1.out (fun e => by cases e) (by simp; omega) Z1.out ?_)
        intro v1 w1 o1 l1
        have O2 := Lib.hid o1
        have B2 := Lib.hid ((HB.out.alloc HZ.out _).trans l1)
        have Z2 := Lib.hid (Nat.le_trans Z1.out l1.size)
        clear o1 l1 ex
        go_wp2_with fail
        go_roundw
        case rel =>
          refine ⟨4, by omega, by go_num, ?_, B2.out, Z2.out⟩
          have := O2.out
          rw [HX.out]
          first | exact this | (rw [← List.append_assoc]; exact this) | simpa using this
        case measure => simp [intOf]
      · have ex := numB_int n 3 HN.out.1 16777216 (by decide)
        rw [HT.out] at ex
        obtain ⟨x, hx⟩ : ∃ x, numB n 3 = x := ⟨_, rfl⟩
        rw [hx] at ex
        have HX := Lib.hid (show (numK n).take 5 = (numK n).take 4 ++ [x] from HS.out.trans (by rw [show 7 - 4 = 3 from rfl, hx]))
        have O1 := Lib.hid (HO1.out.below ((Below.refl _ _).alloc (Nat.le_refl _) (.cells #[.int .u8 (x.toNat : Int)] 5)))
        have B1 := Lib.hid (bytes_one wr x)
        have Z1 := Lib.hid (show base ≤ (wr.alloc (.cells #[.int .u8 (x.toNat : Int)] 5)).heap.size by simp only [World.size_alloc]; have := HZ.out; omega)
        clear hx
        go_wp2_with (at_builtin; refine wpList_app _ rfl (.tmp 13) (.tmp 20) 35 rfl Tryd.underlying35 u8infoAll base _ _ [x] rfl O1.out _ _ rfl B1.out (fun e => by cases e) (by simp; omega) Z1.out ?_)
        intro v1 w1 o1 l1
        have O2 := Lib.hid o1
        have B2 := Lib.hid ((HB.out.alloc HZ.out _).trans l1)
        have Z2 := Lib.hid (Nat.le_trans Z1.out l1.size)
        clear o1 l1 ex
        go_wp2_with fail
        go_roundw
        case rel =>
          refine ⟨5, by omega, by go_num, ?_, B2.out, Z2.out⟩
          have := O2.out
          rw [HX.out]
          first | exact this | (rw [← List.append_assoc]; exact this) | simpa using this
        case measure => simp [intOf]
      · have ex := numB_int n 2 HN.out.1 65536 (by decide)
        rw [HT.out] at ex
        obtain ⟨x, hx⟩ : ∃ x, numB n 2 = x := ⟨_, rfl⟩
        rw [hx] at ex
        have HX := Lib.hid (show (numK n).take 6 = (numK n).take 5 ++ [x] from HS.out.trans (by rw [show 7 - 5 = 2 from rfl, hx]))
        have O1 := Lib.hid (HO1.out.below ((Below.refl _ _).alloc (Nat.le_refl _) (.cells #[.int .u8 (x.toNat : Int)] 5)))
        have B1 := Lib.hid (bytes_one wr x)
        have Z1 := Lib.hid (show base ≤ (wr.alloc (.cells #[.int .u8 (x.toNat : Int)] 5)).heap.size by simp only [World.size_alloc]; have := HZ.out; omega)
        clear hx
        go_wp2_with (at_builtin; refine wpList_app _ rfl (.tmp 13) (.tmp 20) 35 rfl Tryd.underlying35 u8infoAll base _ _ [x] rfl O1.out _ _ rfl B1.out (fun e => by cases e) (by simp; omega) Z1.out ?_)
        intro v1 w1 o1 l1
        have O2 := Lib.hid o1
        have B2 := Lib.hid ((HB.out.alloc HZ.out _).trans l1)
        have Z2 := Lib.hid (Nat.le_trans Z1.out l1.size)
        clear o1 l1 ex
        go_wp2_with fail
        go_roundw
        case rel =>
          refine ⟨6, by omega, by go_num, ?_, B2.out, Z2.out⟩
          have := O2.out
          rw [HX.out]
          first | exact this | (rw [← List.append_assoc]; exact this) | simpa using this
        case measure => simp [intOf]
      · have ex := numB_int n 1 HN.out.1 256 (by decide)
        rw [HT.out] at ex
        obtain ⟨x, hx⟩ : ∃ x, numB n 1 = x := ⟨_, rfl⟩
        rw [hx] at ex
        have HX := Lib.hid (show (numK n).take 7 = (numK n).take 6 ++ [x] from HS.out.trans (by rw [show 7 - 6 = 1 from rfl, hx]))
        have O1 := Lib.hid (HO1.out.below ((Below.refl _ _).alloc (Nat.le_refl _) (.cells #[.int .u8 (x.toNat : Int)] 5)))
        have B1 := Lib.hid (bytes_one wr x)
        have Z1 := Lib.hid (show base ≤ (wr.alloc (.cells #[.int .u8 (x.toNat : Int)] 5)).heap.size by simp only [World.size_alloc]; have := HZ.out; omega)
        clear hx
        go_wp2_with (at_builtin; refine wpList_app _ rfl (.tmp 13) (.tmp 20) 35 rfl Tryd.underlying35 u8infoAll base _ _ [x] rfl O1.out _ _ rfl B1.out (fun e => by cases e) (by simp; omega) Z1.out ?_)
        intro v1 w1 o1 l1
        have O2 := Lib.hid o1
        have B2 := Lib.hid ((HB.out.alloc HZ.out _).trans l1)
        have Z2 := Lib.hid (Nat.le_trans Z1.out l1.size)
        clear o1 l1 ex
        go_wp2_with fail
        go_roundw
        case rel =>
          refine ⟨7, by omega, by go_num, ?_, B2.out, Z2.out⟩
          have := O2.out
          rw [HX.out]
          first | exact this | (rw [← List.append_assoc]; exact this) | simpa using this
        case measure => simp [intOf]
      · have ex := numB_int n 0 HN.out.1 1 (by decide)
        rw [HT.out] at ex
        obtain ⟨x, hx⟩ : ∃ x, numB n 0 = x := ⟨_, rfl⟩
        rw [hx] at ex
        rw [Int.ediv_one] at ex
        have HX := Lib.hid (show (numK n).take 8 = (numK n).take 7 ++ [x] from HS.out.trans (by rw [show 7 - 7 = 0 from rfl, hx]))
        have O1 := Lib.hid (HO1.out.below ((Below.refl _ _).alloc (Nat.le_refl _) (.cells #[.int .u8 (x.toNat : Int)] 5)))
        have B1 := Lib.hid (bytes_one wr x)
        have Z1 := Lib.hid (show base ≤ (wr.alloc (.cells #[.int .u8 (x.toNat : Int)] 5)).heap.size by simp only [World.size_alloc]; have := HZ.out; omega)
        clear hx
        go_wp2_with (at_builtin; refine wpList_app _ rfl (.tmp 13) (.tmp 20) 35 rfl Tryd.underlying35 u8infoAll base _ _ [x] rfl O1.out _ _ rfl B1.out (fun e => by cases e) (by simp; omega) Z1.out ?_)
        intro v1 w1 o1 l1
        have O2 := Lib.hid o1
        have B2 := Lib.hid ((HB.out.alloc HZ.out _).trans l1)
        have Z2 := Lib.hid (Nat.le_trans Z1.out l1.size)
        clear o1 l1 ex
        go_wp2_with fail
        go_roundw
        case rel =>
          refine ⟨8, by omega, by go_num, ?_, B2.out, Z2.out⟩
          have := O2.out
          rw [HX.out]
          first | exact this | (rw [← List.append_assoc]; exact this) | simpa using this
        case measure => simp [intOf]
    · obtain rfl : j = 8 := by omega
      go_wp2_with fail
      go_ret
      exact ⟨_, rfl, HO1.out, HB.out⟩
end Go.Proofs.YtpmhefdalhohdaaDoor
