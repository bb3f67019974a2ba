/- order.appendKey, Key: a value's key. -/
import Derived.Test.YtpmhefdalhohdaaDoorOText
import Derived.Test.YtpmhefdalhohdaaDoorOCompare2
namespace Go.Proofs.YtpmhefdalhohdaaDoor
open Go.RowKit
set_option linter.unusedVariables false

/-- What a part of a row adds. -/
def partK (k : Int) (f : Nat → VT) (g : Nat → ByteArray) (i : Nat) : List UInt8 := (if k = 5 then wordK (g i).data.toList else []) ++ keyV (f i)
theorem keyV_row {k n m q : _} {b s f g} (hk : k = 4 ∨ k = 5) : keyV (.mk k b n s m f q g) = UInt8.ofNat (k + 2).toNat :: (catN (partK k f g) m ++ [0]) := by
  rw [keyV, if_neg (by omega), if_neg (by omega), if_pos hk]
  rfl
theorem catN_le (p : Nat → List UInt8) : ∀ {i j : Nat}, i ≤ j → (catN p i).length ≤ (catN p j).length
  | i, 0, h => by have : i = 0 := by omega
                  rw [this]; exact Nat.le_refl _
  | i, j + 1, h => by
    rcases Nat.lt_or_ge i (j + 1) with h2 | h2
    · have := catN_le p (i := i) (j := j) (by omega)
      rw [catN, List.length_append]; omega
    · have : i = j + 1 := by omega
      rw [this]; exact Nat.le_refl _
def KeyS (t : VT) : Prop := ∀ (v sv : Value) (l : List UInt8) (base : Nat) (w : World), HasJ w (fun x => x < base) t v → OwnL w base sv l → base ≤ w.heap.size → l.length + (keyV t).length ≤ 1000000000 → Fit t →
  Calls Tryd.prog 32 #[sv, v] w (AppP base w sv (l ++ keyV t))
theorem below_keep {w w' : World} {base : Nat} {t : VT} {v : Value} (h : HasJ w (fun x => x < base) t v) (hb : Below base w w') : HasJ w' (fun x => x < base) t v := h.keep fun x hx => ⟨hb.block x hx, hx⟩
set_option maxHeartbeats 4000000 in
set_option maxRecDepth 100000 in
theorem key_nil (b : Bool) (n : Int) (s : ByteArray) (m : Nat) (f : Nat → VT) (q : Nat) (g : Nat → ByteArray) (sv : Value) (l : List UInt8) (base : Nat) (w : World) (h : HasJ w (fun y => y < base) (.mk 0 b n s m f q g) .nilIface) (ho : OwnL w base sv l) (hb : base ≤ w.heap.size) (hl : l.length + (keyV (.mk 0 b n s m f q g)).length ≤ 1000000000) (ft : Fit (.mk 0 b n s m f q g)) :
    Calls Tryd.prog 32 #[sv, .nilIface] w (AppP base w sv (l ++ keyV (.mk 0 b n s m f q g))) := by
  obtain ⟨x, hx⟩ : ∃ x : UInt8, x = 1 := ⟨_, rfl⟩
  have hx1 : rankV (.mk 0 b n s m f q g) = (x.toNat : Int) := by rw [hx, rank_mk]; rfl
  have K1 := Lib.hid (kind_any h ft.kind)
  rw [hx1] at K1
  have O1 := Lib.hid (ho.below ((Below.refl _ _).alloc (Nat.le_refl _) (.cells #[.int .u8 (x.toNat : Int)] 5)))
  have B1 := Lib.hid (bytes_one w x)
  have Z1 := Lib.hid (show base ≤ (w.alloc (.cells #[.int .u8 (x.toNat : Int)] 5)).heap.size by simp only [World.size_alloc]; omega)
  have HH := Lib.hid h
  have HX := Lib.hid hx
  clear h ho hx1 hx
  go_enter Tryd.func32, Tryd.ntmps32
  go_wp2_with fail
  refine (K1.out _).mono ?_
  rintro e w2 ⟨rfl, rfl⟩
  go_wp2_with (at_builtin; refine wpList_app _ rfl (.tmp 13) (.tmp 16) 35 rfl Tryd.underlying35 u8infoAll base _ l [x] rfl O1.out _ _ rfl B1.out (fun e => by cases e) (by simp; omega) Z1.out ?_)
  intro v1 w1 o1 l1
  have O2 := Lib.hid o1
  have B2 := Lib.hid (((Apd.refl base w sv).alloc hb _).trans l1)
  have Z2 := Lib.hid (Nat.le_trans Z1.out l1.size)
  clear o1 l1
  go_wp2_with fail
  go_ret
  refine ⟨_, rfl, ?_, B2.out⟩
  have := O2.out
  rw [HX.out] at this
  rw [show keyV (.mk 0 b n s m f q g) = [1] from rfl]; exact this
set_option maxHeartbeats 4000000 in
set_option maxRecDepth 100000 in
theorem key_false (n : Int) (s : ByteArray) (m : Nat) (f : Nat → VT) (q : Nat) (g : Nat → ByteArray) (sv : Value) (l : List UInt8) (base : Nat) (w : World) (h : HasJ w (fun y => y < base) (.mk 1 false n s m f q g) (.iface 4 (.bool false))) (ho : OwnL w base sv l) (hb : base ≤ w.heap.size) (hl : l.length + (keyV (.mk 1 false n s m f q g)).length ≤ 1000000000) (ft : Fit (.mk 1 false n s m f q g)) :
    Calls Tryd.prog 32 #[sv, (.iface 4 (.bool false))] w (AppP base w sv (l ++ keyV (.mk 1 false n s m f q g))) := by
  obtain ⟨x, hx⟩ : ∃ x : UInt8, x = 2 := ⟨_, rfl⟩
  have hx1 : rankV (.mk 1 false n s m f q g) = (x.toNat : Int) := by rw [hx, rank_mk]; rfl
  have K1 := Lib.hid (kind_any h ft.kind)
  rw [hx1] at K1
  have O1 := Lib.hid (ho.below ((Below.refl _ _).alloc (Nat.le_refl _) (.cells #[.int .u8 (x.toNat : Int)] 5)))
  have B1 := Lib.hid (bytes_one w x)
  have Z1 := Lib.hid (show base ≤ (w.alloc (.cells #[.int .u8 (x.toNat : Int)] 5)).heap.size by simp only [World.size_alloc]; omega)
  have HH := Lib.hid h
  have HX := Lib.hid hx
  clear h ho hx1 hx
  go_enter Tryd.func32, Tryd.ntmps32
  go_wp2_with fail
  refine (K1.out _).mono ?_
  rintro e w2 ⟨rfl, rfl⟩
  go_wp2_with (at_builtin; refine wpList_app _ rfl (.tmp 13) (.tmp 16) 35 rfl Tryd.underlying35 u8infoAll base _ l [x] rfl O1.out _ _ rfl B1.out (fun e => by cases e) (by simp; omega) Z1.out ?_)
  intro v1 w1 o1 l1
  have O2 := Lib.hid o1
  have B2 := Lib.hid (((Apd.refl base w sv).alloc hb _).trans l1)
  have Z2 := Lib.hid (Nat.le_trans Z1.out l1.size)
  clear o1 l1
  go_wp2_with fail
  go_ret
  refine ⟨_, rfl, ?_, B2.out⟩
  have := O2.out
  rw [HX.out] at this
  rw [show keyV (.mk 1 false n s m f q g) = [2] from rfl]; exact this
set_option maxHeartbeats 4000000 in
set_option maxRecDepth 100000 in
theorem key_true (n : Int) (s : ByteArray) (m : Nat) (f : Nat → VT) (q : Nat) (g : Nat → ByteArray) (sv : Value) (l : List UInt8) (base : Nat) (w : World) (h : HasJ w (fun y => y < base) (.mk 1 true n s m f q g) (.iface 4 (.bool true))) (ho : OwnL w base sv l) (hb : base ≤ w.heap.size) (hl : l.length + (keyV (.mk 1 true n s m f q g)).length ≤ 1000000000) (ft : Fit (.mk 1 true n s m f q g)) :
    Calls Tryd.prog 32 #[sv, (.iface 4 (.bool true))] w (AppP base w sv (l ++ keyV (.mk 1 true n s m f q g))) := by
  obtain ⟨x, hx⟩ : ∃ x : UInt8, x = 3 := ⟨_, rfl⟩
  have hx1 : rankV (.mk 1 true n s m f q g) = (x.toNat : Int) := by rw [hx, rank_mk]; rfl
  have K1 := Lib.hid (kind_any h ft.kind)
  rw [hx1] at K1
  have O1 := Lib.hid (ho.below ((Below.refl _ _).alloc (Nat.le_refl _) (.cells #[.int .u8 (x.toNat : Int)] 5)))
  have B1 := Lib.hid (bytes_one w x)
  have Z1 := Lib.hid (show base ≤ (w.alloc (.cells #[.int .u8 (x.toNat : Int)] 5)).heap.size by simp only [World.size_alloc]; omega)
  have HH := Lib.hid h
  have HX := Lib.hid hx
  clear h ho hx1 hx
  go_enter Tryd.func32, Tryd.ntmps32
  go_wp2_with fail
  refine (K1.out _).mono ?_
  rintro e w2 ⟨rfl, rfl⟩
  go_wp2_with (at_builtin; refine wpList_app _ rfl (.tmp 13) (.tmp 16) 35 rfl Tryd.underlying35 u8infoAll base _ l [x] rfl O1.out _ _ rfl B1.out (fun e => by cases e) (by simp; omega) Z1.out ?_)
  intro v1 w1 o1 l1
  have O2 := Lib.hid o1
  have B2 := Lib.hid (((Apd.refl base w sv).alloc hb _).trans l1)
  have Z2 := Lib.hid (Nat.le_trans Z1.out l1.size)
  clear o1 l1
  go_wp2_with fail
  go_ret
  refine ⟨_, rfl, ?_, B2.out⟩
  have := O2.out
  rw [HX.out] at this
  rw [show keyV (.mk 1 true n s m f q g) = [3] from rfl]; exact this
set_option maxHeartbeats 4000000 in
set_option maxRecDepth 100000 in
theorem key_num (b : Bool) (n : Int) (s : ByteArray) (m : Nat) (f : Nat → VT) (q : Nat) (g : Nat → ByteArray) (sv : Value) (l : List UInt8) (base : Nat) (w : World) (h : HasJ w (fun y => y < base) (.mk 2 b n s m f q g) (.iface 54 (.int .i64 n))) (ho : OwnL w base sv l) (hb : base ≤ w.heap.size) (hl : l.length + (keyV (.mk 2 b n s m f q g)).length ≤ 1000000000) (ft : Fit (.mk 2 b n s m f q g)) (HN : Hid (-9223372036854775808 ≤ n ∧ n ≤ 9223372036854775807)) :
    Calls Tryd.prog 32 #[sv, (.iface 54 (.int .i64 n))] w (AppP base w sv (l ++ keyV (.mk 2 b n s m f q g))) := by
  obtain ⟨x, hx⟩ : ∃ x : UInt8, x = 4 := ⟨_, rfl⟩
  have hx1 : rankV (.mk 2 b n s m f q g) = (x.toNat : Int) := by rw [hx, rank_mk]; rfl
  have K1 := Lib.hid (kind_any h ft.kind)
  rw [hx1] at K1
  have O1 := Lib.hid (ho.below ((Below.refl _ _).alloc (Nat.le_refl _) (.cells #[.int .u8 (x.toNat : Int)] 5)))
  have B1 := Lib.hid (bytes_one w x)
  have Z1 := Lib.hid (show base ≤ (w.alloc (.cells #[.int .u8 (x.toNat : Int)] 5)).heap.size by simp only [World.size_alloc]; omega)
  have HH := Lib.hid h
  have HX := Lib.hid hx
  clear h ho hx1 hx
  go_enter Tryd.func32, Tryd.ntmps32
  go_wp2_with fail
  refine (K1.out _).mono ?_
  rintro e w2 ⟨rfl, rfl⟩
  go_wp2_with (at_builtin; refine wpList_app _ rfl (.tmp 13) (.tmp 16) 35 rfl Tryd.underlying35 u8infoAll base _ l [x] rfl O1.out _ _ rfl B1.out (fun e => by cases e) (by simp; omega) Z1.out ?_)
  intro v1 w1 o1 l1
  have O2 := Lib.hid o1
  have B2 := Lib.hid (((Apd.refl base w sv).alloc hb _).trans l1)
  have Z2 := Lib.hid (Nat.le_trans Z1.out l1.size)
  clear o1 l1
  have CN := Lib.hid (fun (W : World) (v : Value) (L : List UInt8) (o : OwnL W base v L) (z : base ≤ W.heap.size) (hL : L.length ≤ 1000000000000) => appendNumber_any v L n HN.out base W o z hL)
  go_wp2_with fail
  refine (CN.out _ _ _ O2.out Z2.out (by simp; omega)).mono ?_
  rintro e w3 ⟨v3, rfl, o3, l3⟩
  have O3 := Lib.hid o3
  have B3 := Lib.hid (B2.out.trans l3)
  clear o3 l3
  go_wp2_with fail
  go_ret
  refine ⟨_, rfl, ?_, B3.out⟩
  have := O3.out
  rw [HX.out, List.append_assoc] at this
  rw [show keyV (.mk 2 b n s m f q g) = [4] ++ numK n from rfl]
  exact this
set_option maxHeartbeats 4000000 in
set_option maxRecDepth 100000 in
theorem key_text (b : Bool) (n : Int) (s : ByteArray) (m : Nat) (f : Nat → VT) (q : Nat) (g : Nat → ByteArray) (sv : Value) (l : List UInt8) (base : Nat) (w : World) (h : HasJ w (fun y => y < base) (.mk 3 b n s m f q g) (.iface 9 (.string s))) (ho : OwnL w base sv l) (hb : base ≤ w.heap.size) (hl : l.length + (keyV (.mk 3 b n s m f q g)).length ≤ 1000000000) (ft : Fit (.mk 3 b n s m f q g)) (hs : s.size ≤ 1000000000) :
    Calls Tryd.prog 32 #[sv, (.iface 9 (.string s))] w (AppP base w sv (l ++ keyV (.mk 3 b n s m f q g))) := by
  obtain ⟨x, hx⟩ : ∃ x : UInt8, x = 5 := ⟨_, rfl⟩
  have hx1 : rankV (.mk 3 b n s m f q g) = (x.toNat : Int) := by rw [hx, rank_mk]; rfl
  have K1 := Lib.hid (kind_any h ft.kind)
  rw [hx1] at K1
  have O1 := Lib.hid (ho.below ((Below.refl _ _).alloc (Nat.le_refl _) (.cells #[.int .u8 (x.toNat : Int)] 5)))
  have B1 := Lib.hid (bytes_one w x)
  have Z1 := Lib.hid (show base ≤ (w.alloc (.cells #[.int .u8 (x.toNat : Int)] 5)).heap.size by simp only [World.size_alloc]; omega)
  have HH := Lib.hid h
  have HX := Lib.hid hx
  clear h ho hx1 hx
  go_enter Tryd.func32, Tryd.ntmps32
  go_wp2_with fail
  refine (K1.out _).mono ?_
  rintro e w2 ⟨rfl, rfl⟩
  go_wp2_with (at_builtin; refine wpList_app _ rfl (.tmp 13) (.tmp 16) 35 rfl Tryd.underlying35 u8infoAll base _ l [x] rfl O1.out _ _ rfl B1.out (fun e => by cases e) (by simp; omega) Z1.out ?_)
  intro v1 w1 o1 l1
  have O2 := Lib.hid o1
  have B2 := Lib.hid (((Apd.refl base w sv).alloc hb _).trans l1)
  have Z2 := Lib.hid (Nat.le_trans Z1.out l1.size)
  clear o1 l1
  have CN := Lib.hid (fun (W : World) (v : Value) (L : List UInt8) (o : OwnL W base v L) (z : base ≤ W.heap.size) (hL : L.length + 2 * s.size + 2 ≤ 1000000000000) => appendText_any v L s base W o z hL)
  go_wp2_with fail
  refine (CN.out _ _ _ O2.out Z2.out (by simp; omega)).mono ?_
  rintro e w3 ⟨v3, rfl, o3, l3⟩
  have O3 := Lib.hid o3
  have B3 := Lib.hid (B2.out.trans l3)
  clear o3 l3
  go_wp2_with fail
  go_ret
  refine ⟨_, rfl, ?_, B3.out⟩
  have := O3.out
  rw [HX.out, List.append_assoc] at this
  rw [show keyV (.mk 3 b n s m f q g) = [5] ++ (esc s.data.toList ++ [0, 1]) from rfl]
  exact this
set_option maxHeartbeats 4000000 in
set_option maxRecDepth 100000 in
theorem key_list (b : Bool) (n : Int) (s : ByteArray) (m : Nat) (f : Nat → VT) (q : Nat) (g : Nat → ByteArray) (A : Option Addr) (c : Nat) (sv : Value) (l : List UInt8) (base : Nat) (w : World) (h : HasJ w (fun y => y < base) (.mk 4 b n s m f q g) (.iface 50 (.slice A m c))) (ho : OwnL w base sv l) (hb : base ≤ w.heap.size) (hl : l.length + (keyV (.mk 4 b n s m f q g)).length ≤ 1000000000) (ft : Fit (.mk 4 b n s m f q g)) (hS4 : ∀ y, blockOf A = some y → 0 < m → y < base) (hmc : m ≤ c) (hc : c ≤ 9223372036854775807) (ih : ∀ i, KeyS (f i)) :
    Calls Tryd.prog 32 #[sv, (.iface 50 (.slice A m c))] w (AppP base w sv (l ++ keyV (.mk 4 b n s m f q g))) := by
  obtain ⟨x, hx⟩ : ∃ x : UInt8, x = 6 := ⟨_, rfl⟩
  have hx1 : rankV (.mk 4 b n s m f q g) = (x.toNat : Int) := by rw [hx, rank_mk]; rfl
  have K1 := Lib.hid (kind_any h ft.kind)
  rw [hx1] at K1
  have O1 := Lib.hid (ho.below ((Below.refl _ _).alloc (Nat.le_refl _) (.cells #[.int .u8 (x.toNat : Int)] 5)))
  have B1 := Lib.hid (bytes_one w x)
  have Z1 := Lib.hid (show base ≤ (w.alloc (.cells #[.int .u8 (x.toNat : Int)] 5)).heap.size by simp only [World.size_alloc]; omega)
  have HH := Lib.hid h
  have HX := Lib.hid hx
  clear h ho hx1 hx
  go_enter Tryd.func32, Tryd.ntmps32
  go_wp2_with fail
  refine (K1.out _).mono ?_
  rintro e w2 ⟨rfl, rfl⟩
  go_wp2_with (at_builtin; refine wpList_app _ rfl (.tmp 13) (.tmp 16) 35 rfl Tryd.underlying35 u8infoAll base _ l [x] rfl O1.out _ _ rfl B1.out (fun e => by cases e) (by simp; omega) Z1.out ?_)
  intro v1 w1 o1 l1
  have O2 := Lib.hid o1
  have B2 := Lib.hid (((Apd.refl base w sv).alloc hb _).trans l1)
  have Z2 := Lib.hid (Nat.le_trans Z1.out l1.size)
  clear o1 l1
  have HKE := Lib.hid (keyV_row (k := 4) (b := b) (n := n) (s := s) (m := m) (f := f) (q := q) (g := g) (.inl rfl))
  have hll : l.length + 1 + (catN (partK 4 f g) m).length + 1 ≤ 1000000000 := by
    have := hl
    rw [HKE.out] at this
    simp at this
    omega
  obtain ⟨_, _, e, _, _, hit⟩ := list_of HH.out rfl
  injection e with _ e
  injection e with e1 e2 e3
  subst e1 e3
  have HF := Lib.hid (fun i (hi : i < m) => (ft.item (.inl rfl) hi).1)
  have HL := Lib.hid hl
  clear hl ft e2
  go_wp2_with fail
  go_loopw [0, 36] (fun v i wr => ∃ j : Nat, j ≤ m ∧ i = .int .i64 j ∧ OwnL wr base v (l ++ [x] ++ catN (partK 4 f g) j) ∧ Apd base w sv wr v ∧ base ≤ wr.heap.size) (fun _ i _ => m - (intOf i).toNat)
  case atStart => exact ⟨0, by omega, rfl, by simpa [catN] using O2.out, B2.out, Z2.out⟩
  case round =>
    obtain ⟨j, hj, rfl, ho, hb1, hz⟩ := hrel
    have HO := Lib.hid ho
    have HB := Lib.hid hb1
    have HZ := Lib.hid hz
    clear ho hb1 hz
    by_cases hlt : j < m
    · obtain ⟨u, hu, hcu⟩ := hit j hlt
      obtain ⟨xb, o, rfl⟩ := cellAt_inv hcu
      have hxb : xb < base := hS4 xb rfl (by omega)
      rw [cellAt_some] at hcu
      have q0 : wr.cell? ⟨xb, o + j, none⟩ = some u := (HB.out.cell (p := ⟨xb, o + j, none⟩) hxb).trans hcu
      have hcl := catN_le (partK 4 f g) (show j + 1 ≤ m by omega)
      rw [catN, List.length_append] at hcl
      have hpl : (partK 4 f g j).length = (keyV (f j)).length := rfl
      have C := Lib.hid (ih j u)
      have HU := Lib.hid (below_keep hu HB.out.below)
      have HI := Lib.hid hit
      have HC := Lib.hid hcl
      have HP := Lib.hid hpl
      clear hit hu hcu
      go_wp2_with fail
      refine (C.out _ _ _ _ HU.out HO.out HZ.out (by simp; omega) (HF.out j hlt)).mono ?_
      rintro e w3 ⟨v3, rfl, o3, l3⟩
      have O3 := Lib.hid o3
      have B3 := Lib.hid (HB.out.trans l3)
      have Z3 := Lib.hid (Nat.le_trans HZ.out l3.size)
      clear o3 l3
      go_wp2_with fail
      go_roundw
      case rel =>
        refine ⟨j + 1, by omega, by go_num, ?_, B3.out, Z3.out⟩
        have := O3.out
        rw [catN, ← List.append_assoc]
        exact this
      case measure => simp [intOf]; omega
    · obtain rfl : j = m := by omega
      have HI := Lib.hid hit
      have O3 := Lib.hid (HO.out.below ((Below.refl _ _).alloc (Nat.le_refl _) (.cells #[.int .u8 0] 5)))
      have B3 := Lib.hid (bytes_one wr 0)
      have Z3 := Lib.hid (show base ≤ (wr.alloc (.cells #[.int .u8 0] 5)).heap.size by simp only [World.size_alloc]; have := HZ.out; omega)
      clear hit
      go_wp2_with (at_builtin; refine wpList_app _ rfl (.tmp 44) (.tmp 45) 35 rfl Tryd.underlying35 u8infoAll base _ _ [0] rfl O3.out _ _ rfl B3.out (fun e => by cases e) (by simp; omega) Z3.out ?_)
      intro v4 w4 o4 l4
      have O4 := Lib.hid o4
      have B4 := Lib.hid ((HB.out.alloc HZ.out _).trans l4)
      clear o4 l4
      go_wp2_with fail
      go_ret
      refine ⟨_, rfl, ?_, B4.out⟩
      have := O4.out
      rw [HKE.out, show UInt8.ofNat ((4 : Int) + 2).toNat = 6 from rfl]
      rw [HX.out] at this
      simpa using this
end Go.Proofs.YtpmhefdalhohdaaDoor
