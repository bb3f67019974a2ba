/- The contract of Build. -/
import Derived.Test.YtmeijienfdefjaaFParts
import Derived.Test.YtmeijienfdefjaaFCopy
namespace Go.Proofs.Ytmeijienfdefjaa
open Go.RowKit

/-- What a sector's bytes are, as Build lays them. -/
def bodyF (mark n : Nat) (F : Nat → Nat) : Nat → Nat := copyF (pairF zeroF 0 mark) 16 n F
def secF (m mark n : Nat) (F : Nat → Nat) : Nat → Nat := pairF (putF (bodyF mark n F) m 4 (crc (bodyF mark n F) m)) (m + 4) mark

theorem u8info : (Try.prog.info? 5).map (fun i => (i.zero, i.size, i.bytes)) = some (some (.int .u8 0), 1, 1) := by kernel_rfl
theorem u8size : (Try.prog.info? 5).map (·.size) = some 1 := by kernel_rfl

theorem parts_at (b o n m c : Nat) (w : World) (h1 : m + 20 ≤ n) (h2 : n ≤ m + 20) (hc : n ≤ c) (hm : c ≤ 9223372036854775807) :
    Calls Try.prog 69 #[.slice (some ⟨b, o, none⟩) n c] w fun e w' =>
      e = .returned (.tuple #[.slice (some ⟨b, o, none⟩) m m, .slice (some ⟨b, o + m, none⟩) 4 4, .slice (some ⟨b, o + (m + 4), none⟩) 16 (c - (m + 4))]) ∧ ∃ q, w.drewN q = w' := by
  obtain rfl : n = m + 20 := by omega
  exact parts_any b o m c w hc hm

set_option maxHeartbeats 1000000 in
theorem build_ok (size m mark n c : Nat) (A : Option Addr) (F : Nat → Nat) (w : World) (h1 : m + 20 ≤ size) (h2 : size ≤ m + 20) (h44 : 44 ≤ m) (hm : m ≤ 4076) (hk1 : 1 ≤ mark) (hk2 : mark ≤ 4611686018427387904) (hn : 16 + n ≤ m) (hb : Bytes w A n F) :
    Calls Try.prog 61 #[.int .i64 size, .int .i64 mark, .slice A n c] w fun e w' =>
      e = .returned (.tuple #[.slice (some ⟨w.heap.size, 0, none⟩) size size, .int .i64 0]) ∧ BRow w' w.heap.size size (secF m mark n F) ∧ Below w.heap.size w w' := by
  have hT : fitsB (size : Int) = true := fitsB_t (by omega) (by omega)
  have hR : roomI (size : Int) = (m : Int) - 16 := by unfold roomI; rw [if_pos (by omega)]; omega
  have HT := Lib.hid hT
  have HR := Lib.hid hR
  clear hT hR
  have hmk := run_make_row' (P := Try.prog) 42 5 (.int .u8 0) 1 Try.underlying42 u8info rfl .i64 .i64 size (by omega) (by omega)
  have hbl : n ≤ 9223372036854775807 := by omega
  go_enter Try.func61, Try.ntmps61
  go_wp2_with fail
  refine (fits_any _ _).mono ?_
  rintro e w' ⟨rfl, rfl⟩
  rw [HT.out]
  go_wp2_with fail
  refine (room_any _ _ (by omega) (by omega)).mono ?_
  rintro e w' ⟨rfl, rfl⟩
  rw [HR.out]
  go_wp2_with fail
  refine (parts_at _ _ _ m _ _ h1 h2 (Nat.le_refl _) (by omega)).mono ?_
  rintro e w' ⟨rfl, q, rfl⟩
  have b0 := (BRow.made w size (by omega)).drewN q
  have l0 := below_drewN ((Below.refl w.heap.size w).alloc (Nat.le_refl _) (.cells (madeCells #[.int .u8 0] size) 5)) q
  generalize World.drewN (w.alloc (.cells (madeCells #[.int .u8 0] size) 5)) q = W0 at *
  clear hmk
  go_wp2_with fail
  refine (putPair_any _ 0 m m size mark zeroF W0 b0 (by omega) (by omega) (by omega) (by omega)).mono ?_
  rintro e W1 ⟨rfl, b1, g1⟩
  have l1 := l0.grown g1 l0.size (by rintro k ⟨⟩; exact Nat.le_refl _)
  have s1 := hb.below l1 (Nat.le_refl _)
  clear b0 g1 l0
  go_wp2_with (with_reducible refine wpList_copy_bytes rfl _ _ 42 42 rfl Try.underlying42 u8size _ _ _ _ _ _ rfl rfl w.heap.size 16 size n _ F b1 s1 ?d1 ?d2 ?d3 ?d4)
  case d1 => exact (Nat.min_eq_left (by omega)).symm
  case d3 => omega
  case d4 =>
    intro W2 b2 g2
    have l2 := l1.grown g2 l1.size (by rintro k ⟨⟩; exact Nat.le_refl _)
    have b2' : BRow W2 w.heap.size size (bodyF mark n F) := b2
    clear b1 g2 l1 s1 b2
    go_wp2_with fail
    refine (check_any _ m _ (bodyF mark n F) W2 ((b2'.bytes (o := 0) (m := m) (by omega)).congr fun i _ => by rw [Nat.zero_add])).mono ?_
    rintro e W3 ⟨rfl, rfl⟩
    go_wp2_with fail
    refine (put32_any _ m 4 _ size _ _ _ b2' (by omega) (by omega)).mono ?_
    rintro e W3 ⟨rfl, b3, g3⟩
    have l3 := l2.grown g3 l2.size (by rintro k ⟨⟩; exact Nat.le_refl _)
    clear b2' g3 l2
    go_wp2_with fail
    refine (putPair_any _ (m + 4) 16 _ size mark _ _ b3 (by omega) (by omega) (by omega) (by omega)).mono ?_
    rintro e W4 ⟨rfl, b4, g4⟩
    have l4 := l3.grown g4 l3.size (by rintro k ⟨⟩; exact Nat.le_refl _)
    clear b3 g4 l3
    go_wp2
    go_ret2
    exact ⟨rfl, b4, l4⟩
  all_goals exact fun _ => rfl

theorem build_size (size mark : Int) (A : Option Addr) (n c : Nat) (w : World) (h : size < 64 ∨ 4096 < size) :
    Calls Try.prog 61 #[.int .i64 size, .int .i64 mark, .slice A n c] w fun e w' => e = .returned (.tuple #[.slice none 0 0, .int .i64 3]) ∧ w = w' := by
  have HT := Lib.hid (fitsB_f h)
  clear h
  go_enter Try.func61, Try.ntmps61
  go_wp2_with fail
  refine (fits_any _ _).mono ?_
  rintro e w' ⟨rfl, rfl⟩
  rw [HT.out]
  go_wp2
  go_ret2
  exact ⟨rfl, rfl⟩

theorem build_mark (size mark : Int) (A : Option Addr) (n c : Nat) (w : World) (h1 : 64 ≤ size) (h2 : size ≤ 4096) (h : mark < 1 ∨ 4611686018427387904 < mark) :
    Calls Try.prog 61 #[.int .i64 size, .int .i64 mark, .slice A n c] w fun e w' => e = .returned (.tuple #[.slice none 0 0, .int .i64 2]) ∧ w = w' := by
  have HT := Lib.hid (fitsB_t h1 h2)
  by_cases hm : mark < 1
  all_goals
    have hq : mark < 1 ∨ 4611686018427387904 < mark := h
    clear h
    go_enter Try.func61, Try.ntmps61
    go_wp2_with fail
    refine (fits_any _ _).mono ?_
    rintro e w' ⟨rfl, rfl⟩
    rw [HT.out]
    go_wp2
    go_ret2
    exact ⟨rfl, rfl⟩

theorem build_long (size mark : Int) (A : Option Addr) (n c : Nat) (w : World) (h1 : 64 ≤ size) (h2 : size ≤ 4096) (h3 : 1 ≤ mark) (h4 : mark ≤ 4611686018427387904) (hn : size - 36 < n) (_hn2 : n ≤ 9223372036854775807) :
    Calls Try.prog 61 #[.int .i64 size, .int .i64 mark, .slice A n c] w fun e w' => e = .returned (.tuple #[.slice none 0 0, .int .i64 9]) ∧ w = w' := by
  have HT := Lib.hid (fitsB_t h1 h2)
  have hR : roomI size = size - 36 := by unfold roomI; rw [if_pos (by omega)]
  have HR := Lib.hid hR
  clear hR
  go_enter Try.func61, Try.ntmps61
  go_wp2_with fail
  refine (fits_any _ _).mono ?_
  rintro e w' ⟨rfl, rfl⟩
  rw [HT.out]
  go_wp2_with fail
  refine (room_any _ _ (by omega) (by omega)).mono ?_
  rintro e w' ⟨rfl, rfl⟩
  rw [HR.out]
  go_wp2
  go_ret2
  exact ⟨rfl, rfl⟩
end Go.Proofs.Ytmeijienfdefjaa
