/- order.appendKey of an object, of any value; Key. -/
import Derived.Test.YtpmhefdalhohdaaDoorOKey
namespace Go.Proofs.YtpmhefdalhohdaaDoor
open Go.RowKit
set_option linter.unusedVariables false

theorem esc_ge : ∀ (a : List UInt8), a.length ≤ (esc a).length
  | [] => by simp [esc]
  | c :: r => by
    have := esc_ge r
    rw [esc]
    split <;> simp <;> omega
theorem word_len (g : ByteArray) : g.size ≤ (wordK g.data.toList).length := by
  have h := esc_ge g.data.toList
  have e : g.data.toList.length = g.size := Array.length_toList
  unfold wordK
  simp
  omega
/-- A text as a tree. -/
def textT (t : VT) (s : ByteArray) : VT := .mk 3 false 0 s 0 (fun _ => t) 0 (fun _ => s)
theorem fit_text {t : VT} {s : ByteArray} (h : utfB s = true) : Fit (textT t s) := ⟨0, by unfold textT; rw [mayV]; simp [h]⟩
theorem key_textT (t : VT) (s : ByteArray) : keyV (textT t s) = wordK s.data.toList := rfl
theorem name_any (t : VT) (nm : ByteArray) (sv : Value) (l : List UInt8) (base : Nat) (w : World) (ho : OwnL w base sv l) (hb : base ≤ w.heap.size) (hl : l.length + (wordK nm.data.toList).length ≤ 1000000000) (hu : utfB nm = true) (hz : nm.size ≤ 140737488351232) :
    Calls Tryd.prog 32 #[sv, .iface 9 (.string nm)] w (AppP base w sv (l ++ wordK nm.data.toList)) :=
  key_text false 0 nm 0 (fun _ => t) 0 (fun _ => nm) sv l base w (.inr (.inr (.inr (.inl ⟨rfl, rfl, hz⟩)))) ho hb hl (fit_text (t := t) hu) (by have := word_len nm; omega)
set_option maxHeartbeats 4000000 in
set_option maxRecDepth 100000 in
theorem key_object (b : Bool) (n : Int) (s : ByteArray) (m : Nat) (f : Nat → VT) (q : Nat) (g : Nat → ByteArray) (A : Option Addr) (c : Nat) (sv : Value) (l : List UInt8) (base : Nat) (w : World) (h : HasJ w (fun y => y < base) (.mk 5 b n s m f q g) (.iface 56 (.slice A m c))) (ho : OwnL w base sv l) (hb : base ≤ w.heap.size) (hl : l.length + (keyV (.mk 5 b n s m f q g)).length ≤ 1000000000) (ft : Fit (.mk 5 b n s m f q g)) (hS4 : ∀ y, blockOf A = some y → 0 < m → y < base) (hmc : m ≤ c) (hc : c ≤ 9223372036854775807) (ih : ∀ i, KeyS (f i)) :
    Calls Tryd.prog 32 #[sv, (.iface 56 (.slice A m c))] w (AppP base w sv (l ++ keyV (.mk 5 b n s m f q g))) := by
  obtain ⟨x, hx⟩ : ∃ x : UInt8, x = 7 := ⟨_, rfl⟩
  have hx1 : rankV (.mk 5 b n s m f q g) = (x.toNat : Int) := by rw [hx, rank_mk]; rfl
  have K1 := Lib.hid (kind_any h ft.kind)
  rw [hx1] at K1
  have O1 := Lib.hid (ho.below ((Below.refl _ _).alloc (Nat.le_refl _) (.cells #[.int .u8 (x.toNat : Int)] 5)))
  have B1 := Lib.hid (bytes_one w x)
  have Z1 := Lib.hid (show base ≤ (w.alloc (.cells #[.int .u8 (x.toNat : Int)] 5)).heap.size by simp only [World.size_alloc]; omega)
  have HH := Lib.hid h
  have HX := Lib.hid hx
  clear h ho hx1 hx
  go_enter Tryd.func32, Tryd.ntmps32
  go_wp2_with fail
  refine (K1.out _).mono ?_
  rintro e w2 ⟨rfl, rfl⟩
  go_wp2_with (at_builtin; refine wpList_app _ rfl (.tmp 13) (.tmp 16) 35 rfl Tryd.underlying35 u8infoAll base _ l [x] rfl O1.out _ _ rfl B1.out (fun e => by cases e) (by simp; omega) Z1.out ?_)
  intro v1 w1 o1 l1
  have O2 := Lib.hid o1
  have B2 := Lib.hid (((Apd.refl base w sv).alloc hb _).trans l1)
  have Z2 := Lib.hid (Nat.le_trans Z1.out l1.size)
  clear o1 l1
  have HKE := Lib.hid (keyV_row (k := 5) (b := b) (n := n) (s := s) (m := m) (f := f) (q := q) (g := g) (.inr rfl))
  have hll : l.length + 1 + (catN (partK 5 f g) m).length + 1 ≤ 1000000000 := by
    have := hl
    rw [HKE.out] at this
    simp at this
    omega
  obtain ⟨_, _, e, _, _, hit⟩ := object_of HH.out rfl
  injection e with _ e
  injection e with e1 e2 e3
  subst e1 e3
  have HF := Lib.hid (fun i (hi : i < m) => ft.item (.inr rfl) hi)
  have HL := Lib.hid hl
  clear hl ft e2
  go_wp2_with fail
  go_loopw [0, 52] (fun v i wr => ∃ j : Nat, j ≤ m ∧ i = .int .i64 j ∧ OwnL wr base v (l ++ [x] ++ catN (partK 5 f g) j) ∧ Apd base w sv wr v ∧ base ≤ wr.heap.size) (fun _ i _ => m - (intOf i).toNat)
  case atStart => exact ⟨0, by omega, rfl, by simpa [catN] using O2.out, B2.out, Z2.out⟩
  case round =>
    obtain ⟨j, hj, rfl, ho, hb1, hz⟩ := hrel
    have HO := Lib.hid ho
    have HB := Lib.hid hb1
    have HZ := Lib.hid hz
    clear ho hb1 hz
    by_cases hlt : j < m
    · obtain ⟨gz, hc0, u, hu, hc1⟩ := hit j hlt
      obtain ⟨xb, o, rfl⟩ := cellAt_inv hc0
      have hxb : xb < base := hS4 xb rfl (by omega)
      rw [cellAt_some, Nat.mul_comm] at hc0
      rw [cellAt_some, Nat.mul_comm, ← Nat.add_assoc] at hc1
      have q0 : wr.cell? ⟨xb, o + j * 2, none⟩ = some (.string (g j)) := (HB.out.cell (p := ⟨xb, o + j * 2, none⟩) hxb).trans hc0
      have q1 : wr.cell? ⟨xb, o + j * 2 + 1, none⟩ = some u := (HB.out.cell (p := ⟨xb, o + j * 2 + 1, none⟩) hxb).trans hc1
      have hcl := catN_le (partK 5 f g) (show j + 1 ≤ m by omega)
      rw [catN, List.length_append] at hcl
      have hpl : (partK 5 f g j).length = (wordK (g j).data.toList).length + (keyV (f j)).length := by
        show ((if (5 : Int) = 5 then wordK (g j).data.toList else []) ++ keyV (f j)).length = _
        rw [if_pos rfl, List.length_append]
      have C := Lib.hid (ih j u)
      have CN := Lib.hid (fun (sv : Value) (L : List UInt8) (W : World) (ho : OwnL W base sv L) (hb : base ≤ W.heap.size) (hl : L.length + (wordK (g j).data.toList).length ≤ 1000000000) => name_any (f j) (g j) sv L base W ho hb hl ((HF.out j hlt).2 trivial).1 gz)
      have HU := Lib.hid hu
      have HI := Lib.hid hit
      have hone := hu.two
      clear hit hu hc0 hc1
      rcases hone with rfl | ⟨T, ux, rfl⟩
      · have XB := Lib.hid (show (wr.alloc (.cells #[.string (g j), .nilIface] 58)).cell? ⟨wr.heap.size, 0, none⟩ = some (.string (g j)) by simp)
        have X1 := Lib.hid (show (wr.alloc (.cells #[.string (g j), .nilIface] 58)).cell? ⟨wr.heap.size, 1, none⟩ = some .nilIface by simp)
        have OA := Lib.hid (HO.out.below ((Below.refl _ _).alloc (Nat.le_refl _) (.cells #[.string (g j), .nilIface] 58)))
        have BA := Lib.hid (HB.out.alloc HZ.out (.cells #[.string (g j), .nilIface] 58))
        have ZA := Lib.hid (show base ≤ (wr.alloc (.cells #[.string (g j), .nilIface] 58)).heap.size from Nat.le_trans HZ.out (by simp))
        have NE := Lib.hid (show some wr.heap.size ≠ u0.ownBlock from fun e => by
          obtain ⟨A1, c1, e1, ow1⟩ := HO.out
          have := (ow1.1.lt wr.heap.size (by rw [← e1]; exact e.symm)).2
          omega)
        go_wp2_with fail
        refine (CN.out _ _ _ OA.out ZA.out (by simp; omega)).mono ?_
        rintro e w3 ⟨v3, rfl, o3, l3⟩
        have k1 : w3.cell? ⟨wr.heap.size, 1, none⟩ = some .nilIface := l3.grown.cell X1.out NE.out
        have O3 := Lib.hid o3
        have B3 := Lib.hid (BA.out.trans l3)
        have Z3 := Lib.hid (Nat.le_trans ZA.out l3.size)
        clear o3 l3
        go_wp2_with fail
        refine (C.out _ _ _ _ (below_keep HU.out B3.out.below) O3.out Z3.out (by simp; omega) (HF.out j hlt).1).mono ?_
        rintro e w4 ⟨v4, rfl, o4, l4⟩
        have O4 := Lib.hid o4
        have B4 := Lib.hid (B3.out.trans l4)
        have Z4 := Lib.hid (Nat.le_trans Z3.out l4.size)
        clear o4 l4
        go_wp2_with fail
        go_roundw
        case rel =>
          refine ⟨j + 1, by omega, by go_num, ?_, B4.out, Z4.out⟩
          have := O4.out
          have e : l ++ [x] ++ catN (partK 5 f g) (j + 1) = l ++ [x] ++ catN (partK 5 f g) j ++ wordK (g j).data.toList ++ keyV (f j) := by
            rw [catN]
            show l ++ [x] ++ (catN (partK 5 f g) j ++ ((if (5 : Int) = 5 then wordK (g j).data.toList else []) ++ keyV (f j))) = _
            rw [if_pos rfl]
            simp only [List.append_assoc]
          rw [e]
          exact this
        case measure => simp [intOf]; omega
      · have XB := Lib.hid (show (wr.alloc (.cells #[.string (g j), (.iface T ux)] 58)).cell? ⟨wr.heap.size, 0, none⟩ = some (.string (g j)) by simp)
        have X1 := Lib.hid (show (wr.alloc (.cells #[.string (g j), (.iface T ux)] 58)).cell? ⟨wr.heap.size, 1, none⟩ = some (.iface T ux) by simp)
        have OA := Lib.hid (HO.out.below ((Below.refl _ _).alloc (Nat.le_refl _) (.cells #[.string (g j), (.iface T ux)] 58)))
        have BA := Lib.hid (HB.out.alloc HZ.out (.cells #[.string (g j), (.iface T ux)] 58))
        have ZA := Lib.hid (show base ≤ (wr.alloc (.cells #[.string (g j), (.iface T ux)] 58)).heap.size from Nat.le_trans HZ.out (by simp))
        have NE := Lib.hid (show some wr.heap.size ≠ u0.ownBlock from fun e => by
          obtain ⟨A1, c1, e1, ow1⟩ := HO.out
          have := (ow1.1.lt wr.heap.size (by rw [← e1]; exact e.symm)).2
          omega)
        go_wp2_with fail
        refine (CN.out _ _ _ OA.out ZA.out (by simp; omega)).mono ?_
        rintro e w3 ⟨v3, rfl, o3, l3⟩
        have k1 : w3.cell? ⟨wr.heap.size, 1, none⟩ = some (.iface T ux) := l3.grown.cell X1.out NE.out
        have O3 := Lib.hid o3
        have B3 := Lib.hid (BA.out.trans l3)
        have Z3 := Lib.hid (Nat.le_trans ZA.out l3.size)
        clear o3 l3
        go_wp2_with fail
        refine (C.out _ _ _ _ (below_keep HU.out B3.out.below) O3.out Z3.out (by simp; omega) (HF.out j hlt).1).mono ?_
        rintro e w4 ⟨v4, rfl, o4, l4⟩
        have O4 := Lib.hid o4
        have B4 := Lib.hid (B3.out.trans l4)
        have Z4 := Lib.hid (Nat.le_trans Z3.out l4.size)
        clear o4 l4
        go_wp2_with fail
        go_roundw
        case rel =>
          refine ⟨j + 1, by omega, by go_num, ?_, B4.out, Z4.out⟩
          have := O4.out
          have e : l ++ [x] ++ catN (partK 5 f g) (j + 1) = l ++ [x] ++ catN (partK 5 f g) j ++ wordK (g j).data.toList ++ keyV (f j) := by
            rw [catN]
            show l ++ [x] ++ (catN (partK 5 f g) j ++ ((if (5 : Int) = 5 then wordK (g j).data.toList else []) ++ keyV (f j))) = _
            rw [if_pos rfl]
            simp only [List.append_assoc]
          rw [e]
          exact this
        case measure => simp [intOf]; omega
    · obtain rfl : j = m := by omega
      have HI := Lib.hid hit
      have O3 := Lib.hid (HO.out.below ((Below.refl _ _).alloc (Nat.le_refl _) (.cells #[.int .u8 0] 5)))
      have B3 := Lib.hid (bytes_one wr 0)
      have Z3 := Lib.hid (show base ≤ (wr.alloc (.cells #[.int .u8 0] 5)).heap.size by simp only [World.size_alloc]; have := HZ.out; omega)
      clear hit
      go_wp2_with (at_builtin; refine wpList_app _ rfl (.tmp 66) (.tmp 67) 35 rfl Tryd.underlying35 u8infoAll base _ _ [0] rfl O3.out _ _ rfl B3.out (fun e => by cases e) (by simp; omega) Z3.out ?_)
      intro v4 w4 o4 l4
      have O4 := Lib.hid o4
      have B4 := Lib.hid ((HB.out.alloc HZ.out _).trans l4)
      clear o4 l4
      go_wp2_with fail
      go_ret
      refine ⟨_, rfl, ?_, B4.out⟩
      have := O4.out
      rw [HKE.out, show UInt8.ofNat ((5 : Int) + 2).toNat = 7 from rfl]
      rw [HX.out] at this
      simpa using this
theorem key_mk (k : Int) (b : Bool) (n : Int) (s : ByteArray) (m : Nat) (f : Nat → VT) (q : Nat) (g : Nat → ByteArray) (ih : ∀ i, KeyS (f i)) : KeyS (.mk k b n s m f q g) := by
  intro v sv l base w h ho hb hl ft
  have h0 := h
  have hk : 0 ≤ k ∧ k ≤ 5 := ft.kind
  rcases h0 with ⟨rfl, rfl⟩ | ⟨rfl, rfl⟩ | ⟨rfl, rfl, hn⟩ | ⟨rfl, rfl, hs⟩ | ⟨rfl, A, c, rfl, h2, h3, h4, h5⟩ | ⟨rfl, A, c, rfl, h2, h3, h4, h5⟩ | ⟨hk2, rfl, _⟩
  · exact key_nil b n s m f q g sv l base w h ho hb hl ft
  · cases b
    · exact key_false n s m f q g sv l base w h ho hb hl ft
    · exact key_true n s m f q g sv l base w h ho hb hl ft
  · exact key_num b n s m f q g sv l base w h ho hb hl ft (Lib.hid hn)
  · refine key_text b n s m f q g sv l base w h ho hb hl ft ?_
    have e : keyV (.mk 3 b n s m f q g) = wordK s.data.toList := rfl
    rw [e] at hl
    have := word_len s
    omega
  · exact key_list b n s m f q g A c sv l base w h ho hb hl ft h4 h2 h3 ih
  · exact key_object b n s m f q g A c sv l base w h ho hb hl ft h4 h2 h3 ih
  · omega
theorem key_rec : ∀ t : VT, KeyS t
  | .no => fun _ _ _ _ _ h => h.elim
  | .mk k b n s m f q g => key_mk k b n s m f q g fun i => key_rec (f i)
/-- What Key leaves. -/
def KeyP (t : VT) (w : World) (e : Ending) (w' : World) : Prop :=
  (mayV t 0 ≠ 0 → e = .returned (.tuple #[.slice none 0 0, .int .i64 (mayV t 0)])) ∧ (mayV t 0 = 0 → ∃ v, e = .returned (.tuple #[v, .int .i64 0]) ∧ OwnL w' w.heap.size v (keyV t)) ∧ Below w.heap.size w w'
set_option maxHeartbeats 4000000 in
set_option maxRecDepth 100000 in
theorem Key_any (t : VT) (v : Value) (w : World) (h : JV w t v) (st : Small t) (hT : TabU w) (hl : (keyV t).length ≤ 1000000000) :
    Calls Tryd.prog 17 #[v] w (KeyP t w) := by
  have M1 := Lib.hid (may_any st h (fun x hx => hx) hT)
  have C := Lib.hid (fun (W : World) (hb : Below w.heap.size w W) (ft : Fit t) => key_rec t v (.slice none 0 0) [] w.heap.size W (below_keep h hb) (OwnL.nil W _) hb.size (by simpa using hl) ft)
  have HF := Lib.hid (show mayV t 0 = 0 → Fit t from fun h => ⟨0, h⟩)
  clear h hT hl
  unfold KeyP
  obtain ⟨R, hR⟩ : ∃ R, R = mayV t 0 := ⟨_, rfl⟩
  rw [← hR] at M1 HF ⊢
  clear hR
  by_cases z : R = 0
  · subst z
    go_enter Tryd.func17, Tryd.ntmps17
    go_wp2_with fail
    refine M1.out.mono ?_
    rintro e w1 ⟨rfl, l1⟩
    have L1 := Lib.hid l1
    clear l1
    go_wp2_with fail
    refine (C.out _ L1.out (HF.out trivial)).mono ?_
    rintro e w2 ⟨v2, rfl, o2, l2⟩
    have O2 := Lib.hid o2
    have L2 := Lib.hid (L1.out.trans l2.below)
    clear o2 l2
    go_wp2_with fail
    go_ret2
    exact ⟨fun e => absurd rfl e, fun _ => ⟨_, rfl, O2.out⟩, L2.out⟩
  · have e1 : (R != 0) = true := by simpa using z
    have HZ := Lib.hid z
    clear z
    go_enter Tryd.func17, Tryd.ntmps17
    go_wp2_with fail
    refine M1.out.mono ?_
    rintro e w1 ⟨rfl, l1⟩
    have L1 := Lib.hid l1
    clear l1
    go_wp2_with fail
    go_ret2
    exact ⟨fun _ => rfl, fun e => absurd e HZ.out, L1.out⟩
end Go.Proofs.YtpmhefdalhohdaaDoor
