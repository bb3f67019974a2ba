/- The document's word. -/
import Derived.Test.YtpmhefdalhohdaaDoorOChainJ
namespace Go.Proofs.YtpmhefdalhohdaaDoor
open Go.RowKit
set_option linter.unusedVariables false

/-- What a call that makes bytes leaves. -/
def MadeP (l : List UInt8) (w : World) (e : Ending) (w' : World) : Prop := ∃ v, e = .returned v ∧ OwnL w' w.heap.size v l ∧ Below w.heap.size w w'
theorem own_one (w : World) (base : Nat) (x : UInt8) (hb : base ≤ w.heap.size) : OwnL (w.alloc (.cells #[.int .u8 (x.toNat : Int)] 5)) base (.slice (some ⟨w.heap.size, 0, none⟩) 1 1) [x] :=
  (own_new w #[.int .u8 (x.toNat : Int)] [x] rfl (fun i hi => by
    have : i = 0 := by simpa using hi
    subst this
    rfl) (by simp)).lower hb
set_option maxHeartbeats 2000000 in
set_option maxRecDepth 100000 in
theorem refWord_any (s : ByteArray) (w : World) (hs : s.size ≤ 100000) : Calls Tryd.prog 33 #[.string s] w (MadeP (wordK s.data.toList) w) := by
  obtain ⟨base, hbase⟩ : ∃ base, base = w.heap.size := ⟨_, rfl⟩
  have HO := Lib.hid (own_one w base 5 (by omega))
  have HB0 := Lib.hid (show Below base w (w.alloc (.cells #[.int .u8 5] 5)) from (Below.refl _ _).alloc (by omega) _)
  have HBA := Lib.hid hbase
  clear hbase
  go_enter Tryd.func33, Tryd.ntmps33
  go_wp2_with fail
  go_loopw [3, 4] (fun v i wr => ∃ j : Nat, j ≤ s.size ∧ i = .int .i64 j ∧ OwnL wr base v (5 :: esc (s.data.toList.take j)) ∧ Below base w wr ∧ base ≤ wr.heap.size) (fun _ i _ => s.size - (intOf i).toNat)
  case atStart => exact ⟨0, by omega, rfl, HO.out, HB0.out, by rw [HBA.out]; exact HB0.out.size⟩
  case round =>
    obtain ⟨j, hj, rfl, ho, hb1, hz⟩ := hrel
    have HO1 := Lib.hid ho
    have HB := Lib.hid hb1
    have HZ := Lib.hid hz
    have hel := esc_len_take s j
    clear ho hb1 hz
    by_cases hlt : j < s.size
    · obtain ⟨x, hx⟩ : ∃ x, s[j]'hlt = x := ⟨_, rfl⟩
      have HT := Lib.hid (take_byte s j hlt)
      have O1 := Lib.hid (HO1.out.below ((Below.refl _ _).alloc (Nat.le_refl _) (.cells #[.int .u8 (x.toNat : Int)] 5)))
      have B1 := Lib.hid (bytes_one wr x)
      have Z1 := Lib.hid (show base ≤ (wr.alloc (.cells #[.int .u8 (x.toNat : Int)] 5)).heap.size by simp only [World.size_alloc]; have := HZ.out; omega)
      go_wp2_with (at_builtin; refine wpList_app _ rfl (.tmp 12) (.tmp 16) 35 rfl Tryd.underlying35 u8infoAll base _ _ [x] rfl O1.out _ _ rfl B1.out (fun e => by cases e) (by simp; omega) Z1.out ?_)
      intro v1 w1 o1 l1
      have O2 := Lib.hid o1
      have B2 := Lib.hid ((HB.out.alloc HZ.out _).trans l1.below)
      have Z2 := Lib.hid (Nat.le_trans Z1.out l1.size)
      clear o1 l1
      by_cases h0 : x = 0
      · subst h0
        have O3 := Lib.hid (O2.out.below ((Below.refl _ _).alloc (Nat.le_refl _) (.cells #[.int .u8 255] 5)))
        have B3 := Lib.hid (bytes_one w1 255)
        have Z3 := Lib.hid (show base ≤ (w1.alloc (.cells #[.int .u8 255] 5)).heap.size by simp only [World.size_alloc]; have := Z2.out; omega)
        go_wp2_with (at_builtin; refine wpList_app _ rfl (.tmp 22) (.tmp 23) 35 rfl Tryd.underlying35 u8infoAll base _ _ [255] rfl O3.out _ _ rfl B3.out (fun e => by cases e) (by simp; omega) Z3.out ?_)
        intro v2 w2 o2 l2
        have O4 := Lib.hid o2
        have B4 := Lib.hid ((B2.out.alloc Z2.out _).trans l2.below)
        have Z4 := Lib.hid (Nat.le_trans Z3.out l2.size)
        have HX := Lib.hid hx
        clear o2 l2 hx
        go_wp2_with fail
        go_roundw
        case rel =>
          refine ⟨j + 1, by omega, by go_num, ?_, B4.out, Z4.out⟩
          rw [HT.out, HX.out, esc_app]
          have := O4.out
          simpa [esc] using this
        case measure => simp [intOf]; omega
      · have h1 : ((x.toNat : Int) == 0) = false := by
          simp
          intro e
          exact h0 (UInt8.toNat_inj.1 (by simpa using e))
        have HX := Lib.hid hx
        have H0 := Lib.hid h0
        clear h0
        go_wp2_with fail
        go_roundw
        case rel =>
          refine ⟨j + 1, by omega, by go_num, ?_, B2.out, Z2.out⟩
          rw [HT.out, HX.out, esc_app]
          have := O2.out
          simpa [esc, H0.out] using this
        case measure => simp [intOf]; omega
    · obtain rfl : j = s.size := by omega
      have HF := Lib.hid (show s.data.toList.take s.size = s.data.toList from List.take_of_length_le (by rw [Array.length_toList]; exact Nat.le_refl _))
      have O3 := Lib.hid (HO1.out.below ((Below.refl _ _).alloc (Nat.le_refl _) (.cells #[.int .u8 0, .int .u8 1] 5)))
      have B3 := Lib.hid (bytes_new wr #[.int .u8 0, .int .u8 1] [0, 1] (fun i hi => by
        rcases (show i = 0 ∨ i = 1 by simp at hi; omega) with rfl | rfl <;> rfl) (by simp))
      have Z3 := Lib.hid (show base ≤ (wr.alloc (.cells #[.int .u8 0, .int .u8 1] 5)).heap.size by simp only [World.size_alloc]; have := HZ.out; omega)
      go_wp2_with (at_builtin; refine wpList_app _ rfl (.tmp 25) (.tmp 26) 35 rfl Tryd.underlying35 u8infoAll base _ _ [0, 1] rfl O3.out _ _ rfl B3.out (fun e => by cases e) (by simp; omega) Z3.out ?_)
      intro v2 w2 o2 l2
      have O4 := Lib.hid o2
      have B4 := Lib.hid ((HB.out.alloc HZ.out _).trans l2.below)
      clear o2 l2
      go_wp2_with fail
      go_ret
      refine ⟨_, rfl, ?_, ?_⟩
      · have := O4.out
        rw [HF.out] at this
        rw [← HBA.out]
        simpa [wordK] using this
      · rw [← HBA.out]; exact B4.out
end Go.Proofs.YtpmhefdalhohdaaDoor
