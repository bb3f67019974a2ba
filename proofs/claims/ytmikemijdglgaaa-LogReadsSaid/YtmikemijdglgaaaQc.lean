/- Merged texts: FRead, FReadNo, LPlain, LLittle, LSlot, LChange, DNil, DInv, DLeaf, LPlace. -/
import Derived.Test.YtmikemijdglgaaaQb
import Derived.Deep.DeepCutAuto
import Derived.Deep.CutRange
import Derived.Deep.QuietTactic
import Derived.BigQuiet
/- The contracts of Clone and of Read. -/
namespace Go.Proofs.Ytmikemijdglgaaa
open Go.RowKit

theorem read_size (A : Option Addr) (n c : Nat) (w : World) (h : n < 64 ∨ 4096 < n) (hn : n ≤ 9223372036854775807) :
    Calls Try.prog 64 #[.slice A n c] w fun e w' => e = .returned (.tuple #[.int .i64 0, .slice none 0 0, .int .i64 3]) ∧ w = w' := by
  have hT : fitsB (n : Int) = false := fitsB_f (by omega)
  have HT := Lib.hid hT
  clear h hT
  go_enter Try.func64, Try.ntmps64
  go_wp2_with fail
  refine (fits_any _ _).mono ?_
  rintro e w' ⟨rfl, rfl⟩
  rw [HT.out]
  go_wp2
  go_ret3
  exact ⟨rfl, rfl⟩

set_option maxHeartbeats 1000000 in
theorem read_yes2 (b o n m c : Nat) (F : Nat → Nat) (w : World) (h1 : m + 20 ≤ n) (h2 : n ≤ m + 20) (h44 : 44 ≤ m) (hm : m ≤ 4076) (hc : n ≤ c) (hc2 : c ≤ 9223372036854775807) (hb : Bytes w (some ⟨b, o, none⟩) n F) (hok : okP F m) :
    Calls Try.prog 64 #[.slice (some ⟨b, o, none⟩) n c] w fun e w' =>
      ∃ B d, e = .returned (.tuple #[.int .i64 (leTo F 8), .slice B (m - 16) d, .int .i64 0]) ∧ Bytes w' B (m - 16) (fun i => F (16 + i)) ∧ m - 16 ≤ d ∧ (B = none → d = 0) ∧ Below w.heap.size w w' ∧ d ≤ 9223372036854775807 ∧ (∀ b' o', B = some ⟨b', o', none⟩ → w.heap.size ≤ b') := by
  obtain ⟨⟨k1, k2⟩, p1, p2, p3⟩ := hok
  have hT : fitsB (n : Int) = true := fitsB_t (by omega) (by omega)
  have HT := Lib.hid hT
  have P1 := Lib.hid p1
  have P2 := Lib.hid p2
  have P3 := Lib.hid p3
  have hlt := crc_lt F m
  clear hT p1 p2 p3
  go_enter Try.func64, Try.ntmps64
  go_wp2_with fail
  refine (fits_any _ _).mono ?_
  rintro e w' ⟨rfl, rfl⟩
  rw [HT.out]
  go_wp2_with fail
  refine (parts_at _ _ _ m _ _ h1 h2 hc hc2).mono ?_
  rintro e w' ⟨rfl, q, rfl⟩
  have hb1 : Bytes (w.drewN q) (some ⟨b, o, none⟩) n F := hb
  have l1 := below_drewN (Below.refl w.heap.size w) q
  generalize World.drewN w q = W1 at *
  have hbm := hb1.head m (by omega)
  have hv1 : (1 : Int) ≤ (leTo F 8 : Int) := by omega
  have hv2 : (leTo F 8 : Int) ≤ 4611686018427387904 := by omega
  go_wp2_with fail
  refine (take64_any _ 8 _ F _ (hb1.head 8 (by omega)) (by omega)).mono ?_
  rintro e w' ⟨rfl, rfl⟩
  obtain ⟨v, hvv⟩ : ∃ v, v = leTo F 8 := ⟨_, rfl⟩
  rw [← hvv] at hv1 hv2 P1 P2 k1 k2 ⊢
  have HV := Lib.hid hvv
  clear hvv
  go_wp2_with fail
  refine (isPair_any b o m m v F W1 hbm (by omega) (by omega) (by omega)).mono ?_
  rintro e w' ⟨rfl, rfl⟩
  rw [P1.out]
  go_wp2_with fail
  refine (isPair_any b (o + (m + 4)) 16 _ v _ W1 (hb1.cut (m + 4) 16 (by omega)) (by omega) (by omega) (by omega)).mono ?_
  rintro e w' ⟨rfl, rfl⟩
  rw [P2.out]
  go_wp2_with fail
  refine (take32_any _ 4 _ _ _ (hb1.cut m 4 (by omega)) (by omega)).mono ?_
  rintro e w' ⟨rfl, rfl⟩
  rw [P3.out]
  go_wp2_with fail
  refine (check_any _ m _ F W1 hbm).mono ?_
  rintro e w' ⟨rfl, rfl⟩
  have q3 : ((crc F m : Int) != (crc F m : Int)) = false := by simp
  go_wp2_with fail
  refine (clone_any b (o + 16) (m - 16) _ _ W1 (hbm.cut 16 (m - 16) (by omega)) (by omega)).mono ?_
  rintro e W2 ⟨B, d, rfl, o2, l2⟩
  have l3 : Below w.heap.size w W2 := l1.trans (l2.mono l1.size)
  have b2 := o2.bytes
  have d2 := o2.2.2.1
  have d3 := o2.2.2.2.2
  have d4 := o2.2.2.2.1
  have d5 : ∀ b' o', B = some ⟨b', o', none⟩ → w.heap.size ≤ b' := fun b' o' e => Nat.le_trans l1.size (o2.base_le (by rw [e]; rfl)).1
  have hw64 : IntKind.i64.wrap (v : Int) = (v : Int) := by rw [IntKind.wrap_i64]; omega
  clear o2 l2 hb1 hbm l1
  go_wp2
  go_ret3
  exact ⟨B, d, by rw [← HV.out]; rfl, b2, d2, d3, l3, d4, d5⟩
theorem read_yes (b o n m c : Nat) (F : Nat → Nat) (w : World) (h1 : m + 20 ≤ n) (h2 : n ≤ m + 20) (h44 : 44 ≤ m) (hm : m ≤ 4076) (hc : n ≤ c) (hc2 : c ≤ 9223372036854775807) (hb : Bytes w (some ⟨b, o, none⟩) n F) (hok : okP F m) :
    Calls Try.prog 64 #[.slice (some ⟨b, o, none⟩) n c] w fun e w' =>
      ∃ B d, e = .returned (.tuple #[.int .i64 (leTo F 8), .slice B (m - 16) d, .int .i64 0]) ∧ Bytes w' B (m - 16) (fun i => F (16 + i)) ∧ m - 16 ≤ d ∧ (B = none → d = 0) ∧ Below w.heap.size w w' :=
  (read_yes2 b o n m c F w h1 h2 h44 hm hc hc2 hb hok).mono fun _ _ ⟨B, d, e1, e2, e3, e4, e5, _⟩ => ⟨B, d, e1, e2, e3, e4, e5⟩
end Go.Proofs.Ytmikemijdglgaaa
/- Read of what is no sector. -/
namespace Go.Proofs.Ytmikemijdglgaaa
open Go.RowKit

set_option maxHeartbeats 1000000 in
theorem read_no_low (b o n m c : Nat) (F : Nat → Nat) (w : World) (h1 : m + 20 ≤ n) (h2 : n ≤ m + 20) (h44 : 44 ≤ m) (hm : m ≤ 4076) (hc : n ≤ c) (hc2 : c ≤ 9223372036854775807) (hb : Bytes w (some ⟨b, o, none⟩) n F) (k1 : leTo F 8 < 1) :
    Calls Try.prog 64 #[.slice (some ⟨b, o, none⟩) n c] w fun e w' => e = .returned (.tuple #[.int .i64 0, .slice none 0 0, .int .i64 5]) ∧ Below w.heap.size w w' := by
  have hT : fitsB (n : Int) = true := fitsB_t (by omega) (by omega)
  have HT := Lib.hid hT
  clear hT
  go_enter Try.func64, Try.ntmps64
  go_wp2_with fail
  refine (fits_any _ _).mono ?_
  rintro e w' ⟨rfl, rfl⟩
  rw [HT.out]
  go_wp2_with fail
  refine (parts_at _ _ _ m _ _ h1 h2 hc hc2).mono ?_
  rintro e w' ⟨rfl, q, rfl⟩
  have hb1 : Bytes (w.drewN q) (some ⟨b, o, none⟩) n F := hb
  have l1 := below_drewN (Below.refl w.heap.size w) q
  generalize World.drewN w q = W1 at *
  have hbm := hb1.head m (by omega)
  have hv1 : (leTo F 8 : Int) < 1 := by omega
  go_wp2_with fail
  refine (take64_any _ 8 _ F _ (hb1.head 8 (by omega)) (by omega)).mono ?_
  rintro e w' ⟨rfl, rfl⟩
  obtain ⟨v, hvv⟩ : ∃ v, v = leTo F 8 := ⟨_, rfl⟩
  rw [← hvv] at hv1 ⊢
  clear hvv k1
  go_wp2
  go_ret3
  exact ⟨rfl, l1⟩

set_option maxHeartbeats 1000000 in
theorem read_no_high (b o n m c : Nat) (F : Nat → Nat) (w : World) (h1 : m + 20 ≤ n) (h2 : n ≤ m + 20) (h44 : 44 ≤ m) (hm : m ≤ 4076) (hc : n ≤ c) (hc2 : c ≤ 9223372036854775807) (hb : Bytes w (some ⟨b, o, none⟩) n F) (k1 : 4611686018427387904 < leTo F 8) :
    Calls Try.prog 64 #[.slice (some ⟨b, o, none⟩) n c] w fun e w' => e = .returned (.tuple #[.int .i64 0, .slice none 0 0, .int .i64 5]) ∧ Below w.heap.size w w' := by
  have hT : fitsB (n : Int) = true := fitsB_t (by omega) (by omega)
  have HT := Lib.hid hT
  clear hT
  go_enter Try.func64, Try.ntmps64
  go_wp2_with fail
  refine (fits_any _ _).mono ?_
  rintro e w' ⟨rfl, rfl⟩
  rw [HT.out]
  go_wp2_with fail
  refine (parts_at _ _ _ m _ _ h1 h2 hc hc2).mono ?_
  rintro e w' ⟨rfl, q, rfl⟩
  have hb1 : Bytes (w.drewN q) (some ⟨b, o, none⟩) n F := hb
  have l1 := below_drewN (Below.refl w.heap.size w) q
  generalize World.drewN w q = W1 at *
  have hbm := hb1.head m (by omega)
  have hv1 : (1 : Int) ≤ (leTo F 8 : Int) := by omega
  have hv2 : (4611686018427387904 : Int) < (leTo F 8 : Int) := by omega
  go_wp2_with fail
  refine (take64_any _ 8 _ F _ (hb1.head 8 (by omega)) (by omega)).mono ?_
  rintro e w' ⟨rfl, rfl⟩
  obtain ⟨v, hvv⟩ : ∃ v, v = leTo F 8 := ⟨_, rfl⟩
  rw [← hvv] at hv1 hv2 ⊢
  clear hvv k1
  go_wp2
  go_ret3
  exact ⟨rfl, l1⟩

set_option maxHeartbeats 1000000 in
theorem read_no_first (b o n m c : Nat) (F : Nat → Nat) (w : World) (h1 : m + 20 ≤ n) (h2 : n ≤ m + 20) (h44 : 44 ≤ m) (hm : m ≤ 4076) (hc : n ≤ c) (hc2 : c ≤ 9223372036854775807) (hb : Bytes w (some ⟨b, o, none⟩) n F) (k1 : 1 ≤ leTo F 8) (k2 : leTo F 8 ≤ 4611686018427387904) (p1 : pairB F (leTo F 8) = false) :
    Calls Try.prog 64 #[.slice (some ⟨b, o, none⟩) n c] w fun e w' => e = .returned (.tuple #[.int .i64 0, .slice none 0 0, .int .i64 5]) ∧ Below w.heap.size w w' := by
  have hT : fitsB (n : Int) = true := fitsB_t (by omega) (by omega)
  have HT := Lib.hid hT
  have P1 := Lib.hid p1
  clear p1
  clear hT
  go_enter Try.func64, Try.ntmps64
  go_wp2_with fail
  refine (fits_any _ _).mono ?_
  rintro e w' ⟨rfl, rfl⟩
  rw [HT.out]
  go_wp2_with fail
  refine (parts_at _ _ _ m _ _ h1 h2 hc hc2).mono ?_
  rintro e w' ⟨rfl, q, rfl⟩
  have hb1 : Bytes (w.drewN q) (some ⟨b, o, none⟩) n F := hb
  have l1 := below_drewN (Below.refl w.heap.size w) q
  generalize World.drewN w q = W1 at *
  have hbm := hb1.head m (by omega)
  have hv1 : (1 : Int) ≤ (leTo F 8 : Int) := by omega
  have hv2 : (leTo F 8 : Int) ≤ 4611686018427387904 := by omega
  go_wp2_with fail
  refine (take64_any _ 8 _ F _ (hb1.head 8 (by omega)) (by omega)).mono ?_
  rintro e w' ⟨rfl, rfl⟩
  obtain ⟨v, hvv⟩ : ∃ v, v = leTo F 8 := ⟨_, rfl⟩
  rw [← hvv] at hv1 hv2 k1 k2 P1 ⊢
  clear hvv
  go_wp2_with fail
  refine (isPair_any b o m m v F W1 hbm (by omega) (by omega) (by omega)).mono ?_
  rintro e w' ⟨rfl, rfl⟩
  rw [P1.out]
  go_wp2
  go_ret3
  exact ⟨rfl, l1⟩

set_option maxHeartbeats 1000000 in
theorem read_no_last (b o n m c : Nat) (F : Nat → Nat) (w : World) (h1 : m + 20 ≤ n) (h2 : n ≤ m + 20) (h44 : 44 ≤ m) (hm : m ≤ 4076) (hc : n ≤ c) (hc2 : c ≤ 9223372036854775807) (hb : Bytes w (some ⟨b, o, none⟩) n F) (k1 : 1 ≤ leTo F 8) (k2 : leTo F 8 ≤ 4611686018427387904) (p1 : pairB F (leTo F 8) = true) (p2 : pairB (fun i => F (m + 4 + i)) (leTo F 8) = false) :
    Calls Try.prog 64 #[.slice (some ⟨b, o, none⟩) n c] w fun e w' => e = .returned (.tuple #[.int .i64 0, .slice none 0 0, .int .i64 5]) ∧ Below w.heap.size w w' := by
  have hT : fitsB (n : Int) = true := fitsB_t (by omega) (by omega)
  have HT := Lib.hid hT
  have P1 := Lib.hid p1
  have P2 := Lib.hid p2
  clear p1 p2
  clear hT
  go_enter Try.func64, Try.ntmps64
  go_wp2_with fail
  refine (fits_any _ _).mono ?_
  rintro e w' ⟨rfl, rfl⟩
  rw [HT.out]
  go_wp2_with fail
  refine (parts_at _ _ _ m _ _ h1 h2 hc hc2).mono ?_
  rintro e w' ⟨rfl, q, rfl⟩
  have hb1 : Bytes (w.drewN q) (some ⟨b, o, none⟩) n F := hb
  have l1 := below_drewN (Below.refl w.heap.size w) q
  generalize World.drewN w q = W1 at *
  have hbm := hb1.head m (by omega)
  have hv1 : (1 : Int) ≤ (leTo F 8 : Int) := by omega
  have hv2 : (leTo F 8 : Int) ≤ 4611686018427387904 := by omega
  go_wp2_with fail
  refine (take64_any _ 8 _ F _ (hb1.head 8 (by omega)) (by omega)).mono ?_
  rintro e w' ⟨rfl, rfl⟩
  obtain ⟨v, hvv⟩ : ∃ v, v = leTo F 8 := ⟨_, rfl⟩
  rw [← hvv] at hv1 hv2 k1 k2 P1 P2 ⊢
  clear hvv
  go_wp2_with fail
  refine (isPair_any b o m m v F W1 hbm (by omega) (by omega) (by omega)).mono ?_
  rintro e w' ⟨rfl, rfl⟩
  rw [P1.out]
  go_wp2_with fail
  refine (isPair_any b (o + (m + 4)) 16 _ v _ W1 (hb1.cut (m + 4) 16 (by omega)) (by omega) (by omega) (by omega)).mono ?_
  rintro e w' ⟨rfl, rfl⟩
  rw [P2.out]
  go_wp2
  go_ret3
  exact ⟨rfl, l1⟩

set_option maxHeartbeats 1000000 in
theorem read_no_sum (b o n m c : Nat) (F : Nat → Nat) (w : World) (h1 : m + 20 ≤ n) (h2 : n ≤ m + 20) (h44 : 44 ≤ m) (hm : m ≤ 4076) (hc : n ≤ c) (hc2 : c ≤ 9223372036854775807) (hb : Bytes w (some ⟨b, o, none⟩) n F) (k1 : 1 ≤ leTo F 8) (k2 : leTo F 8 ≤ 4611686018427387904) (p1 : pairB F (leTo F 8) = true) (p2 : pairB (fun i => F (m + 4 + i)) (leTo F 8) = true) (p3 : ¬ leTo (fun i => F (m + i)) 4 = crc F m) :
    Calls Try.prog 64 #[.slice (some ⟨b, o, none⟩) n c] w fun e w' => e = .returned (.tuple #[.int .i64 0, .slice none 0 0, .int .i64 5]) ∧ Below w.heap.size w w' := by
  have hT : fitsB (n : Int) = true := fitsB_t (by omega) (by omega)
  have HT := Lib.hid hT
  have P1 := Lib.hid p1
  have P2 := Lib.hid p2
  have p4 : ((leTo (fun i => F (m + i)) 4 : Int) != (crc F m : Int)) = true := by rw [bne_iff_ne]; omega
  have P3 := Lib.hid p4
  clear p1 p2 p3 p4
  clear hT
  go_enter Try.func64, Try.ntmps64
  go_wp2_with fail
  refine (fits_any _ _).mono ?_
  rintro e w' ⟨rfl, rfl⟩
  rw [HT.out]
  go_wp2_with fail
  refine (parts_at _ _ _ m _ _ h1 h2 hc hc2).mono ?_
  rintro e w' ⟨rfl, q, rfl⟩
  have hb1 : Bytes (w.drewN q) (some ⟨b, o, none⟩) n F := hb
  have l1 := below_drewN (Below.refl w.heap.size w) q
  generalize World.drewN w q = W1 at *
  have hbm := hb1.head m (by omega)
  have hv1 : (1 : Int) ≤ (leTo F 8 : Int) := by omega
  have hv2 : (leTo F 8 : Int) ≤ 4611686018427387904 := by omega
  go_wp2_with fail
  refine (take64_any _ 8 _ F _ (hb1.head 8 (by omega)) (by omega)).mono ?_
  rintro e w' ⟨rfl, rfl⟩
  obtain ⟨v, hvv⟩ : ∃ v, v = leTo F 8 := ⟨_, rfl⟩
  rw [← hvv] at hv1 hv2 k1 k2 P1 P2 ⊢
  clear hvv
  go_wp2_with fail
  refine (isPair_any b o m m v F W1 hbm (by omega) (by omega) (by omega)).mono ?_
  rintro e w' ⟨rfl, rfl⟩
  rw [P1.out]
  go_wp2_with fail
  refine (isPair_any b (o + (m + 4)) 16 _ v _ W1 (hb1.cut (m + 4) 16 (by omega)) (by omega) (by omega) (by omega)).mono ?_
  rintro e w' ⟨rfl, rfl⟩
  rw [P2.out]
  go_wp2_with fail
  refine (take32_any _ 4 _ _ _ (hb1.cut m 4 (by omega)) (by omega)).mono ?_
  rintro e w' ⟨rfl, rfl⟩
  go_wp2_with fail
  refine (check_any _ m _ F W1 hbm).mono ?_
  rintro e w' ⟨rfl, rfl⟩
  have q3 := P3.out
  go_wp2
  go_ret3
  exact ⟨rfl, l1⟩

theorem read_no (b o n m c : Nat) (F : Nat → Nat) (w : World) (h1 : m + 20 ≤ n) (h2 : n ≤ m + 20) (h44 : 44 ≤ m) (hm : m ≤ 4076) (hc : n ≤ c) (hc2 : c ≤ 9223372036854775807) (hb : Bytes w (some ⟨b, o, none⟩) n F) (hok : ¬ okP F m) :
    Calls Try.prog 64 #[.slice (some ⟨b, o, none⟩) n c] w fun e w' => e = .returned (.tuple #[.int .i64 0, .slice none 0 0, .int .i64 5]) ∧ Below w.heap.size w w' := by
  by_cases k1 : leTo F 8 < 1
  · exact read_no_low b o n m c F w h1 h2 h44 hm hc hc2 hb k1
  · by_cases k2 : 4611686018427387904 < leTo F 8
    · exact read_no_high b o n m c F w h1 h2 h44 hm hc hc2 hb k2
    · by_cases p1 : pairB F (leTo F 8) = true
      · by_cases p2 : pairB (fun i => F (m + 4 + i)) (leTo F 8) = true
        · by_cases p3 : leTo (fun i => F (m + i)) 4 = crc F m
          · exact absurd ⟨⟨by omega, by omega⟩, p1, p2, p3⟩ hok
          · exact read_no_sum b o n m c F w h1 h2 h44 hm hc hc2 hb (by omega) (by omega) p1 p2 p3
        · exact read_no_last b o n m c F w h1 h2 h44 hm hc hc2 hb (by omega) (by omega) p1 (by simpa using p2)
      · exact read_no_first b o n m c F w h1 h2 h44 hm hc hc2 hb (by omega) (by omega) (by simpa using p1)
end Go.Proofs.Ytmikemijdglgaaa
/- Plain facts on a log: numbers in bytes, loads, marks, slots. -/
namespace Go.Proofs.Ytmikemijdglgaaa
open Go.RowKit

/-- A word of 64 bits, taken as a number that may be below 0. -/
theorem ofInt_wrap64 (y : Int) : BitVec.ofInt 64 (IntKind.i64.wrap y) = BitVec.ofInt 64 y := by
  apply BitVec.eq_of_toNat_eq
  simp only [BitVec.toNat_ofInt]
  rw [IntKind.wrap_i64]
  have h : ((y + 9223372036854775808) % 18446744073709551616 - 9223372036854775808) % ((2 ^ 64 : Nat) : Int) = y % ((2 ^ 64 : Nat) : Int) := by
    have e : ((2 ^ 64 : Nat) : Int) = 18446744073709551616 := by decide
    rw [e]
    omega
  rw [h]
theorem ofInt64_nat (a : Nat) (ha : a < 18446744073709551616) : (BitVec.ofInt 64 (a : Int)).toNat = a := by
  rw [BitVec.ofInt_natCast, BitVec.toNat_ofNat]; exact Nat.mod_eq_of_lt (by omega)
theorem or64i {x f k : Nat} (hx : x < 256 ^ k) (hf : f < 256) (hk : k < 8) :
    bits BinOp.or IntKind.i64 (x : Int) (IntKind.i64.wrap ((f : Int) * 2 ^ (8 * k))) = IntKind.i64.wrap ((x + f * 256 ^ k : Nat) : Int) := by
  have e : (2 : Int) ^ (8 * k) = ((256 ^ k : Nat) : Int) := by rw [Int.pow_mul]; simp
  have h1 := small_mul hf hk
  have h2 : (256 : Nat) ^ k ≤ 256 ^ 8 := Nat.pow_le_pow_right (by omega) (by omega)
  have e8 : (256 : Nat) ^ 8 = 18446744073709551616 := by decide
  rw [e8] at h1 h2
  show IntKind.i64.wrap ((BitVec.ofInt 64 (x : Int) ||| BitVec.ofInt 64 (IntKind.i64.wrap ((f : Int) * 2 ^ (8 * k)))).toNat : Int) = _
  rw [ofInt_wrap64, e, ← Int.natCast_mul, BitVec.toNat_or, ofInt64_nat x (by omega), ofInt64_nat _ h1, or_disjoint hx]
theorem wrap_small {x : Nat} (h : x ≤ 9223372036854775807) : IntKind.i64.wrap (x : Int) = (x : Int) := by rw [IntKind.wrap_i64]; omega
theorem pow7 {k : Nat} (h : k < 8) : (256 : Nat) ^ k ≤ 72057594037927936 := by
  have h2 : (256 : Nat) ^ k ≤ 256 ^ 7 := Nat.pow_le_pow_right (by omega) (by omega)
  have e7 : (256 : Nat) ^ 7 = 72057594037927936 := by decide
  omega

/-- What Take of eight bytes tells. -/
def takeI (F : Nat → Nat) : Int := IntKind.i64.wrap (leTo F 8 : Int)
/-- A slot's mark. -/
def mkN (epoch i : Nat) : Nat := 2097152 * epoch + i + 1
/-- What a load is, as it is laid into a slot. -/
def loadF (page : Nat) (last : Bool) (G : Nat → Nat) (i : Nat) : Nat := if i < 8 then leF page i else if i = 8 then (if last then 1 else 0) else G (i - 9)
theorem loadF_lt {page n : Nat} {last : Bool} {G : Nat → Nat} (h : ∀ i, i < n → G i < 256) : ∀ i, i < 9 + n → loadF page last G i < 256 := fun i hi => by
  unfold loadF
  split
  · exact leF_lt _ _
  · split
    · split <;> omega
    · exact h _ (by omega)

instance (F : Nat → Nat) (m : Nat) : Decidable (okP F m) := by unfold okP; exact inferInstance
/-- Is a slot's sector (F of m + 20 bytes) one of an epoch: its mark's parts. -/
def epochN (F : Nat → Nat) (m i : Nat) : Nat :=
  if okP F m then (if 1 ≤ leTo F 8 / 2097152 ∧ leTo F 8 / 2097152 ≤ 1099511627776 ∧ leTo F 8 = mkN (leTo F 8 / 2097152) i then leTo F 8 / 2097152 else 0) else 0
/-- The page and the flag of a slot's load. -/
def pageI (F : Nat → Nat) : Int := takeI fun i => F (16 + i)
def flagN (F : Nat → Nat) : Nat := F 24
/-- Does a slot hold a change of that epoch? -/
def isCh (F : Nat → Nat) (m i epoch : Nat) : Prop := epochN F m i = epoch ∧ 0 ≤ pageI F ∧ pageI F ≤ 2147483647 ∧ flagN F ≤ 1
instance (F : Nat → Nat) (m i epoch : Nat) : Decidable (isCh F m i epoch) := by unfold isCh; exact inferInstance
end Go.Proofs.Ytmikemijdglgaaa
/- little.Put, little.Take; the log's small functions. -/
namespace Go.Proofs.Ytmikemijdglgaaa
open Go.RowKit
set_option linter.unusedVariables false

theorem byte_at2 (v k : Nat) : ((v : Int) / 2 ^ (8 * k) % 256) = ((v / 256 ^ k % 256 : Nat) : Int) := byte_at v k
set_option maxHeartbeats 1000000 in
theorem put_any (g off m c n v : Nat) (F : Nat → Nat) (w : World) (h : BRow w g n F) (hm : off + 8 ≤ n) (h8 : 8 ≤ m) (hmc : m ≤ c) (hc : c ≤ 9223372036854775807) (hv : v ≤ 9223372036854775807) :
    Calls Try.prog 68 #[.slice (some ⟨g, off, none⟩) m c, .int .i64 v] w fun e w' => e = .returned (.tuple #[]) ∧ BRow w' g n (putF F off 8 v) ∧ w.grownBy w' (some g) := by
  have hc8 : 8 ≤ c := by omega
  have hv0 : (0 : Int) ≤ v := by omega
  go_enter Try.func68, Try.ntmps68
  go_wp2_with fail
  go_loopw [8] (fun i wr => ∃ k : Nat, k ≤ 8 ∧ i = .int .i64 k ∧ BRow wr g n (putF F off k v) ∧ w.grownBy wr (some g)) (fun i _ => 8 - (intOf i).toNat)
  case atStart => exact ⟨0, by omega, rfl, h.congr fun i _ => by unfold putF; rw [if_neg (by omega)], World.grownBy.refl w _⟩
  case round =>
    obtain ⟨k, hk, rfl, hr, hg⟩ := hrel
    by_cases hlt : k < 8
    · have hc := hr.cell (i := off + k) (by omega)
      have hf := hr.frozen (off + k)
      have hkm : k < m := by omega
      go_wp2_with fail
      rw [byte_at]
      go_roundw
      case rel => exact ⟨k + 1, by omega, by go_num, (hr.set_ (off + k) _ (Nat.mod_lt _ (by omega))).congr fun i _ => putF_step F off k v i, hg.trans (grown_store _ _ _)⟩
      case measure => simp [intOf]; omega
    · obtain rfl : k = 8 := by omega
      go_wp2_with fail
      go_end0
      exact ⟨rfl, hr, hg⟩
theorem leTo_small {F : Nat → Nat} : ∀ {k : Nat}, (∀ i, i < k → F i < 256) → leTo F k < 256 ^ k := fun {k} h => leTo_lt h
set_option maxHeartbeats 1000000 in
theorem take_any (b o m c : Nat) (F : Nat → Nat) (w : World) (h : Bytes w (some ⟨b, o, none⟩) m F) (h8 : 8 ≤ m) (hmc : m ≤ c) (hc : c ≤ 9223372036854775807) :
    Calls Try.prog 58 #[.slice (some ⟨b, o, none⟩) m c] w fun e w' => e = .returned (.int .i64 (takeI F)) ∧ w = w' := by
  have hc8 : 8 ≤ c := by omega
  have hlt := h.2.1
  obtain ⟨b', o', e, hcell⟩ := h.2.2 (by omega)
  injection e with e
  injection e with e1 e2
  subst e1 e2
  go_enter Try.func58, Try.ntmps58
  go_wp2
  go_loop [3, 9] (fun n i => ∃ k : Nat, k ≤ 8 ∧ i = .int .i64 k ∧ n = .int .i64 (IntKind.i64.wrap (leTo F k : Int))) (fun _ i => 8 - (intOf i).toNat)
  case atStart => exact ⟨0, by omega, rfl, rfl⟩
  case round =>
    obtain ⟨k, hk, rfl, rfl⟩ := hrel
    by_cases hlt8 : k < 8
    · have hck := hcell k (by omega)
      have hx := leTo_small (F := F) (k := k) fun i hi => hlt i (by omega)
      have hFk := hlt k (by omega)
      have HO := Lib.hid (or64i hx hFk hlt8)
      have hkm : k < m := by omega
      rw [show IntKind.i64.wrap (leTo F k : Int) = (leTo F k : Int) from wrap_small (by have := pow7 hlt8; omega)]
      clear hx
      go_wp2
      go_round
      case rel =>
        refine ⟨k + 1, by omega, by go_num, ?_⟩
        exact congrArg _ (by rw [← IntWalk.i64_left]; exact HO.out)
      case measure => simp [intOf]; omega
    · go_wp2
      obtain rfl : k = 8 := by omega
      go_ret
      exact ⟨rfl, rfl⟩
def isEpochB (n : Int) : Bool := decide (1 ≤ n ∧ n ≤ 1099511627776)
def isPageB (n : Int) : Bool := decide (0 ≤ n ∧ n ≤ 2147483647)
theorem ret_bl {a b : Bool} (h : a = b) : Ending.returned (.bool a) = .returned (.bool b) := by rw [h]
theorem isEpoch_any (n : Int) (w : World) : Calls Try.prog 35 #[.int .i64 n] w fun e w' => e = .returned (.bool (isEpochB n)) ∧ w = w' := by
  by_cases h1 : 1 ≤ n <;> by_cases h2 : n ≤ 1099511627776
  all_goals
    have H := Lib.hid (show isEpochB n = decide (1 ≤ n ∧ n ≤ 1099511627776) from rfl)
    go_enter Try.func35, Try.ntmps35
    go_wp2
    go_ret
    exact ⟨ret_bl (by rw [H.out]; first | exact (decide_eq_true (by omega)).symm | exact (decide_eq_false (by omega)).symm), rfl⟩
theorem isPage_any (n : Int) (w : World) : Calls Try.prog 59 #[.int .i64 n] w fun e w' => e = .returned (.bool (isPageB n)) ∧ w = w' := by
  by_cases h1 : 0 ≤ n <;> by_cases h2 : n ≤ 2147483647
  all_goals
    have H := Lib.hid (show isPageB n = decide (0 ≤ n ∧ n ≤ 2147483647) from rfl)
    go_enter Try.func59, Try.ntmps59
    go_wp2
    go_ret
    exact ⟨ret_bl (by rw [H.out]; first | exact (decide_eq_true (by omega)).symm | exact (decide_eq_false (by omega)).symm), rfl⟩
theorem markOf_any (epoch i : Nat) (w : World) (he : epoch ≤ 1099511627776) (hi : i ≤ 1048576) : Calls Try.prog 62 #[.int .i64 epoch, .int .i64 i] w fun e w' => e = .returned (.int .i64 (mkN epoch i : Nat)) ∧ w = w' := by
  have H := Lib.hid (show ((mkN epoch i : Nat) : Int) = 2097152 * (epoch : Int) + (i : Int) + 1 by unfold mkN; omega)
  go_enter Try.func62, Try.ntmps62
  go_wp2
  go_ret
  exact ⟨by rw [H.out]; rfl, rfl⟩
end Go.Proofs.Ytmikemijdglgaaa
/- log.slot.read: the epoch in which a slot was written, and its load. -/
namespace Go.Proofs.Ytmikemijdglgaaa
open Go.RowKit
set_option linter.unusedVariables false

theorem epoch_bad {F : Nat → Nat} {m i : Nat} (h : ¬ okP F m) : epochN F m i = 0 := if_neg h
theorem epoch_out {F : Nat → Nat} {m i : Nat} (h : ¬ (1 ≤ leTo F 8 / 2097152 ∧ leTo F 8 / 2097152 ≤ 1099511627776)) : epochN F m i = 0 := by
  unfold epochN
  split
  · rw [if_neg fun k => h ⟨k.1, k.2.1⟩]
  · rfl
theorem epoch_else {F : Nat → Nat} {m i : Nat} (h : leTo F 8 ≠ mkN (leTo F 8 / 2097152) i) : epochN F m i = 0 := by
  unfold epochN
  split
  · rw [if_neg fun k => h k.2.2]
  · rfl
theorem epoch_yes {F : Nat → Nat} {m i : Nat} (h : okP F m) (h1 : 1 ≤ leTo F 8 / 2097152 ∧ leTo F 8 / 2097152 ≤ 1099511627776) (h2 : leTo F 8 = mkN (leTo F 8 / 2097152) i) : epochN F m i = leTo F 8 / 2097152 := by
  unfold epochN
  rw [if_pos h, if_pos ⟨h1.1, h1.2, h2⟩]
set_option maxHeartbeats 4000000 in
set_option maxRecDepth 100000 in
theorem slotRead_any (i b o n m c : Nat) (F : Nat → Nat) (w : World) (hi : i ≤ 1048576) (h1 : m + 20 ≤ n) (h2 : n ≤ m + 20) (h44 : 44 ≤ m) (hm : m ≤ 4076) (hc : n ≤ c) (hc2 : c ≤ 9223372036854775807) (hb : Bytes w (some ⟨b, o, none⟩) n F) :
    Calls Try.prog 45 #[.agg #[.int .i64 i, .slice (some ⟨b, o, none⟩) n c]] w fun e w' =>
      (epochN F m i = 0 ∧ e = .returned (.tuple #[.int .i64 0, .slice none 0 0]) ∨ epochN F m i ≠ 0 ∧ ∃ B d, e = .returned (.tuple #[.int .i64 (epochN F m i), .slice B (m - 16) d]) ∧ Bytes w' B (m - 16) (fun j => F (16 + j)) ∧ m - 16 ≤ d ∧ d ≤ 9223372036854775807 ∧ (B = none → d = 0) ∧ (∀ b' o', B = some ⟨b', o', none⟩ → w.heap.size ≤ b')) ∧ Below w.heap.size w w' := by
  obtain ⟨W1, hW1⟩ : ∃ W1, W1 = w.alloc (.cells #[.int .i64 i, .slice (some ⟨b, o, none⟩) n c] 90) := ⟨_, rfl⟩
  have hz1 : W1.heap.size = w.heap.size + 1 := by rw [hW1]; simp
  have L1 := Lib.hid (show Below w.heap.size w W1 by rw [hW1]; exact (Below.refl _ _).alloc (Nat.le_refl _) _)
  have C1 := Lib.hid (show ∀ W : World, Below W1.heap.size W1 W → W.cell? ⟨w.heap.size, 0, none⟩ = some (.int .i64 i) ∧ W.cell? ⟨w.heap.size, 1, none⟩ = some (.slice (some ⟨b, o, none⟩) n c) ∧ Below w.heap.size w W from fun W l => by
    refine ⟨(l.cell (p := ⟨w.heap.size, 0, none⟩) (by rw [hz1]; exact Nat.lt_succ_self _)).trans ?_, (l.cell (p := ⟨w.heap.size, 1, none⟩) (by rw [hz1]; exact Nat.lt_succ_self _)).trans ?_, L1.out.trans (l.mono L1.out.size)⟩ <;> rw [hW1] <;> simp)
  have hb1 := hb.below L1.out (Nat.le_refl _)
  have HW1 := Lib.hid hW1
  clear hW1 hz1 hb
  by_cases hok : okP F m
  case neg =>
    have K := Lib.hid (read_no b o n m c F W1 h1 h2 h44 hm hc hc2 hb1 hok)
    have HE := Lib.hid (epoch_bad (i := i) hok)
    clear hb1 hok
    go_enter Try.func45, Try.ntmps45
    go_upto_region 1 with (fail)
    rw [← HW1.out]
    obtain ⟨c0, c1, _⟩ := C1.out W1 (Below.refl _ _)
    go_wp2_with fail
    refine K.out.mono ?_
    rintro e W2 ⟨rfl, l2⟩
    have L2 := Lib.hid l2
    clear l2 c0 c1
    go_wp2_with fail
    go_ret2
    exact ⟨.inl ⟨HE.out, rfl⟩, (C1.out _ L2.out).2.2⟩
  have K := Lib.hid (read_yes2 b o n m c F W1 h1 h2 h44 hm hc hc2 hb1 hok)
  obtain ⟨v, hv⟩ : ∃ v, v = leTo F 8 := ⟨_, rfl⟩
  have hvb : 1 ≤ v ∧ v ≤ 4611686018427387904 := by rw [hv]; exact hok.1
  obtain ⟨hv0, hv1⟩ := hvb
  obtain ⟨Q, hQ⟩ : ∃ Q, Q = v / 2097152 := ⟨_, rfl⟩
  have hq : (v : Int) / 2097152 = (Q : Int) := by rw [hQ]; simp
  have hQb : Q ≤ 2199023255552 := by omega
  by_cases he : 1 ≤ Q ∧ Q ≤ 1099511627776
  case neg =>
    have EE := Lib.hid (show isEpochB (Q : Int) = false from decide_eq_false (by omega))
    have HE := Lib.hid (epoch_out (F := F) (m := m) (i := i) (by rw [← hv, ← hQ]; exact he))
    rw [← hv] at K
    clear hb1 hok hv hQ he
    go_enter Try.func45, Try.ntmps45
    go_upto_region 1 with (fail)
    rw [← HW1.out]
    obtain ⟨c0, c1, _⟩ := C1.out W1 (Below.refl _ _)
    go_wp2_with fail
    refine K.out.mono ?_
    rintro e W2 ⟨B, d, rfl, _, _, _, l2, _⟩
    have L2 := Lib.hid l2
    clear l2 c0 c1
    obtain ⟨c0, c1, _⟩ := C1.out _ L2.out
    go_wp2_with fail
    refine (isEpoch_any _ _).mono ?_
    rintro e w' ⟨rfl, rfl⟩
    rw [EE.out]
    go_wp2_with fail
    go_ret2
    exact ⟨.inl ⟨HE.out, rfl⟩, (C1.out _ L2.out).2.2⟩
  have EE := Lib.hid (show isEpochB (Q : Int) = true from decide_eq_true (by omega))
  have MM := Lib.hid (fun W => markOf_any Q i W he.2 hi)
  by_cases hk : v = mkN Q i
  case neg =>
    have HE := Lib.hid (epoch_else (F := F) (m := m) (i := i) (by rw [← hv, ← hQ]; exact hk))
    have e1 : ((v : Int) != ((mkN Q i : Nat) : Int)) = true := by simp; omega
    rw [← hv] at K
    clear hb1 hok hv hQ he hk
    go_enter Try.func45, Try.ntmps45
    go_upto_region 1 with (fail)
    rw [← HW1.out]
    obtain ⟨c0, c1, _⟩ := C1.out W1 (Below.refl _ _)
    go_wp2_with fail
    refine K.out.mono ?_
    rintro e W2 ⟨B, d, rfl, _, _, _, l2, _⟩
    have L2 := Lib.hid l2
    clear l2 c0 c1
    obtain ⟨c0, c1, _⟩ := C1.out _ L2.out
    go_wp2_with fail
    refine (isEpoch_any _ _).mono ?_
    rintro e w' ⟨rfl, rfl⟩
    rw [EE.out]
    go_wp2_with fail
    refine (MM.out _).mono ?_
    rintro e w' ⟨rfl, rfl⟩
    go_wp2_with fail
    go_ret2
    exact ⟨.inl ⟨HE.out, rfl⟩, (C1.out _ L2.out).2.2⟩
  have HE := Lib.hid ((epoch_yes (F := F) (m := m) (i := i) hok (by rw [← hv, ← hQ]; exact he) (by rw [← hv, ← hQ]; exact hk)).trans (by rw [← hv, ← hQ]))
  have HQ0 := Lib.hid (show Q ≠ 0 by omega)
  have e1 : ((v : Int) != ((mkN Q i : Nat) : Int)) = false := by rw [← hk]; simp
  rw [← hv] at K
  clear hb1 hok hv hQ he hk
  go_enter Try.func45, Try.ntmps45
  go_upto_region 1 with (fail)
  rw [← HW1.out]
  obtain ⟨c0, c1, _⟩ := C1.out W1 (Below.refl _ _)
  go_wp2_with fail
  refine K.out.mono ?_
  rintro e W2 ⟨B, d, rfl, b2, d2, d3, l2, d4, d5⟩
  have L2 := Lib.hid l2
  have R2 := Lib.hid (And.intro b2 (And.intro d2 (And.intro d4 (And.intro d3 (show ∀ b' o', B = some ⟨b', o', none⟩ → w.heap.size ≤ b' from fun b' o' e => Nat.le_trans L1.out.size (d5 b' o' e))))))
  clear l2 c0 c1 b2 d2 d3 d4 d5
  obtain ⟨c0, c1, _⟩ := C1.out _ L2.out
  go_wp2_with fail
  refine (isEpoch_any _ _).mono ?_
  rintro e w' ⟨rfl, rfl⟩
  rw [EE.out]
  go_wp2_with fail
  refine (MM.out _).mono ?_
  rintro e w' ⟨rfl, rfl⟩
  go_wp2_with fail
  go_ret2
  rw [HE.out]
  exact ⟨.inr ⟨HQ0.out, B, d, rfl, R2.out⟩, (C1.out _ L2.out).2.2⟩
end Go.Proofs.Ytmikemijdglgaaa
/- log.slot.change: the change that a slot holds in an epoch. -/
namespace Go.Proofs.Ytmikemijdglgaaa
open Go.RowKit
set_option linter.unusedVariables false

theorem isPage_yes {n : Int} (h : 0 ≤ n ∧ n ≤ 2147483647) : isPageB n = true := decide_eq_true h
theorem isPage_no {n : Int} (h : ¬ (0 ≤ n ∧ n ≤ 2147483647)) : isPageB n = false := decide_eq_false h
theorem cell_lt' {w : World} {a : Addr} {v : Value} (h : w.cell? a = some v) : a.block < w.heap.size := by
  rcases Nat.lt_or_ge a.block w.heap.size with hlt | hge
  · exact hlt
  · rw [World.cell?, Array.getElem?_eq_none hge] at h
    cases h
theorem put2_at {W : World} {z : Nat} {x y : Value} (h0 : W.cell? ⟨z, 0, none⟩ = some x) (h1 : W.cell? ⟨z, 1, none⟩ = some y) (a b : Value) :
    ((W.setCell ⟨z, 0, none⟩ a).setCell ⟨z, 1, none⟩ b).cell? ⟨z, 0, none⟩ = some a ∧ ((W.setCell ⟨z, 0, none⟩ a).setCell ⟨z, 1, none⟩ b).cell? ⟨z, 1, none⟩ = some b := by
  have n : (⟨z, 0, none⟩ : Addr) ≠ ⟨z, 1, none⟩ := fun e => by injection e with _ e; cases e
  refine ⟨?_, ?_⟩
  · exact (World.cell?_setCell_other (h := n.symm) ..).trans (World.cell?_setCell_same (h := h0) ..)
  · exact World.cell?_setCell_same (h := (World.cell?_setCell_other (h := n) ..).trans h1) ..
theorem put2_far {W : World} {z x y : Nat} (a b : Value) : ((W.setCell ⟨z, 0, none⟩ a).setCell ⟨z, 1, none⟩ b).cell? ⟨x, y + 2, none⟩ = W.cell? ⟨x, y + 2, none⟩ := by
  have n0 : (⟨z, 0, none⟩ : Addr) ≠ ⟨x, y + 2, none⟩ := fun e => by injection e with _ e; omega
  have n1 : (⟨z, 1, none⟩ : Addr) ≠ ⟨x, y + 2, none⟩ := fun e => by injection e with _ e; omega
  exact (World.cell?_setCell_other (h := n1) ..).trans (World.cell?_setCell_other (h := n0) ..)
theorem put2_bytes {W : World} {z x y n : Nat} {G : Nat → Nat} (h : Bytes W (some ⟨x, y + 2, none⟩) n G) (a b : Value) : Bytes ((W.setCell ⟨z, 0, none⟩ a).setCell ⟨z, 1, none⟩ b) (some ⟨x, y + 2, none⟩) n G := by
  refine ⟨h.1, h.2.1, fun hn => ?_⟩
  obtain ⟨b', o', e, hc⟩ := h.2.2 hn
  injection e with e
  injection e with e1 e2
  subst e1 e2
  refine ⟨x, y + 2, rfl, fun i hi => ?_⟩
  have := hc i hi
  rw [show y + 2 + i = (y + i) + 2 by omega] at this ⊢
  exact (put2_far a b).trans this
/-- What change tells. -/
def ChP (F : Nat → Nat) (m i epoch : Nat) (w : World) (e : Ending) (w' : World) : Prop :=
  (¬ isCh F m i epoch ∧ e = .returned (.tuple #[.agg #[.int .i64 0, .slice none 0 0], .bool false, .bool false]) ∨
    isCh F m i epoch ∧ ∃ B d, e = .returned (.tuple #[.agg #[.int .i64 (pageI F), .slice B (m - 25) d], .bool (decide (flagN F = 1)), .bool true]) ∧ Bytes w' B (m - 25) (fun j => F (25 + j)) ∧ m - 25 ≤ d ∧ d ≤ 9223372036854775807 ∧ (B = none → d = 0) ∧ (∀ b' o', B = some ⟨b', o', none⟩ → w.heap.size ≤ b')) ∧ Below w.heap.size w w'
set_option maxHeartbeats 4000000 in
set_option maxRecDepth 100000 in
theorem change_any (i b o n m c epoch : Nat) (F : Nat → Nat) (w : World) (hep : 1 ≤ epoch) (hi : i ≤ 1048576) (h1 : m + 20 ≤ n) (h2 : n ≤ m + 20) (h44 : 44 ≤ m) (hm : m ≤ 4076) (hc : n ≤ c) (hc2 : c ≤ 9223372036854775807) (hb : Bytes w (some ⟨b, o, none⟩) n F) :
    Calls Try.prog 37 #[.agg #[.int .i64 i, .slice (some ⟨b, o, none⟩) n c], .int .i64 epoch] w (ChP F m i epoch w) := by
  obtain ⟨W1, hW1⟩ : ∃ W1, W1 = (w.alloc (.cells #[.int .i64 i, .slice (some ⟨b, o, none⟩) n c] 90)).alloc (.cells #[.int .i64 0, .slice none 0 0] 44) := ⟨_, rfl⟩
  have hz1 : W1.heap.size = w.heap.size + 2 := by rw [hW1]; simp
  have L1 := Lib.hid (show Below w.heap.size w W1 by rw [hW1]; exact ((Below.refl _ _).alloc (Nat.le_refl _) _).alloc (by simp) _)
  have C1 := Lib.hid (show ∀ W : World, Below W1.heap.size W1 W → W.cell? ⟨w.heap.size, 0, none⟩ = some (.int .i64 i) ∧ W.cell? ⟨w.heap.size, 1, none⟩ = some (.slice (some ⟨b, o, none⟩) n c) ∧ W.cell? ⟨w.heap.size + 1, 0, none⟩ = some (.int .i64 0) ∧ W.cell? ⟨w.heap.size + 1, 1, none⟩ = some (.slice none 0 0) ∧ W.frozen? ⟨w.heap.size + 1, 0, none⟩ = false ∧ W.frozen? ⟨w.heap.size + 1, 1, none⟩ = false ∧ Below w.heap.size w W from fun W l => by
    refine ⟨(l.cell (p := ⟨w.heap.size, 0, none⟩) (by rw [hz1]; show w.heap.size < _; omega)).trans ?_, (l.cell (p := ⟨w.heap.size, 1, none⟩) (by rw [hz1]; show w.heap.size < _; omega)).trans ?_, (l.cell (p := ⟨w.heap.size + 1, 0, none⟩) (by rw [hz1]; show w.heap.size + 1 < _; omega)).trans ?_, (l.cell (p := ⟨w.heap.size + 1, 1, none⟩) (by rw [hz1]; show w.heap.size + 1 < _; omega)).trans ?_, (l.frozen (p := ⟨w.heap.size + 1, 0, none⟩) (by rw [hz1]; show w.heap.size + 1 < _; omega)).trans ?_, (l.frozen (p := ⟨w.heap.size + 1, 1, none⟩) (by rw [hz1]; show w.heap.size + 1 < _; omega)).trans ?_, L1.out.trans (l.mono L1.out.size)⟩ <;> rw [hW1] <;> simp)
  have K := Lib.hid (slotRead_any i b o n m c F W1 hi h1 h2 h44 hm hc hc2 (hb.below L1.out (Nat.le_refl _)))
  have HW1 := Lib.hid hW1
  clear hW1 hz1 hb
  go_enter Try.func37, Try.ntmps37
  go_upto_region 1 with (fail)
  rw [← HW1.out]
  obtain ⟨c0, c1, e0, e1, f0, f1, _⟩ := C1.out W1 (Below.refl _ _)
  go_wp2_with fail
  refine K.out.mono ?_
  rintro e W2 ⟨hr, l2⟩
  have L2 := Lib.hid l2
  clear l2 c0 c1 e0 e1 f0 f1
  have hzz := Lib.hid (show ∀ W : World, Below W1.heap.size W1 W → w.heap.size + 1 < W.heap.size from fun W l => cell_lt' (C1.out W l).2.2.1)
  rcases hr with ⟨hE, rfl⟩ | ⟨hE, B, d, rfl, hB, hd1, hd2, hd3, hd5⟩
  · have n1 : ((0 : Int) != (epoch : Int)) = true := by simp; omega
    have NO := Lib.hid (show ¬ isCh F m i epoch from fun k => by have := k.1; omega)
    clear hE
    obtain ⟨c0, c1, e0, e1, f0, f1, lw⟩ := C1.out _ L2.out
    have hz := hzz.out _ L2.out
    have hs := put2_at e0 e1 (.int .i64 0) (.slice none 0 0)
    have LB := Lib.hid ((lw.setCell (p := ⟨w.heap.size + 1, 0, none⟩) (by simp) (.int .i64 0)).setCell (p := ⟨w.heap.size + 1, 1, none⟩) (by simp) (.slice none 0 0))
    have HS := Lib.hid hs
    clear lw hs
    go_wp2_with fail
    obtain ⟨d0, d1⟩ := HS.out
    exact bodyPost_ret (v := .tuple #[.agg #[.int .i64 0, .slice none 0 0], .bool false, .bool false]) (by simp [results, Try.results37, go_sem, d0, d1]) rfl ⟨.inl ⟨NO.out, rfl⟩, LB.out⟩
  obtain ⟨E, hEE⟩ : ∃ E, E = epochN F m i := ⟨_, rfl⟩
  rw [← hEE]
  by_cases hne : E = epoch
  case neg =>
    have n1 : ((E : Int) != (epoch : Int)) = true := by simp; omega
    have NO := Lib.hid (show ¬ isCh F m i epoch from fun k => hne (hEE.trans k.1))
    clear hE hEE hne
    obtain ⟨c0, c1, e0, e1, f0, f1, lw⟩ := C1.out _ L2.out
    have hz := hzz.out _ L2.out
    have hs := put2_at e0 e1 (.int .i64 0) (.slice none 0 0)
    have LB := Lib.hid ((lw.setCell (p := ⟨w.heap.size + 1, 0, none⟩) (by simp) (.int .i64 0)).setCell (p := ⟨w.heap.size + 1, 1, none⟩) (by simp) (.slice none 0 0))
    have HS := Lib.hid hs
    have HB := Lib.hid hB
    clear lw hs hB
    go_wp2_with fail
    obtain ⟨d0, d1⟩ := HS.out
    exact bodyPost_ret (v := .tuple #[.agg #[.int .i64 0, .slice none 0 0], .bool false, .bool false]) (by simp [results, Try.results37, go_sem, d0, d1]) rfl ⟨.inl ⟨NO.out, rfl⟩, LB.out⟩
  subst hne
  have n1 : ((E : Int) != (E : Int)) = false := by simp
  obtain ⟨hb1, hb2, hb3⟩ := id hB
  obtain ⟨bb, oo, rfl, hcell⟩ := hb3 (by omega)
  have HD5 := Lib.hid (show w.heap.size ≤ bb from Nat.le_trans L1.out.size (hd5 bb oo rfl))
  clear hd5
  obtain ⟨f, hf⟩ : ∃ f, f = F 24 := ⟨_, rfl⟩
  have q8 : W2.cell? ⟨bb, oo + 8, none⟩ = some (.int .u8 (F 24 : Nat)) := hcell 8 (by omega)
  rw [← hf] at q8
  obtain ⟨P, hP⟩ : ∃ P, P = pageI F := ⟨_, rfl⟩
  have T := Lib.hid (show ∀ k : Nat, Calls Try.prog 58 #[.slice (some ⟨bb, oo, none⟩) (m - 16) d] (W2.drewN k) fun e w' => e = .returned (.int .i64 P) ∧ W2.drewN k = w' from fun k => by rw [hP]; exact take_any bb oo (m - 16) d _ (W2.drewN k) hB (by omega) hd1 hd2)
  have hm8 : 8 < m - 16 := by omega
  have hmI : (8 : Int) < ((m - 16 : Nat) : Int) := by omega
  have hm9 : 9 ≤ m - 16 := by omega
  have HCH := Lib.hid (show isCh F m i E ↔ (0 ≤ P ∧ P ≤ 2147483647) ∧ f ≤ 1 from ⟨fun k => ⟨⟨by rw [hP]; exact k.2.1, by rw [hP]; exact k.2.2.1⟩, by rw [hf]; exact k.2.2.2⟩, fun k => ⟨hEE.symm, by rw [← hP]; exact k.1.1, by rw [← hP]; exact k.1.2, by show F 24 ≤ 1; rw [← hf]; exact k.2⟩⟩)
  have HBT := Lib.hid hB
  have HP := Lib.hid hP
  have HF := Lib.hid hf
  have hf0 : (0 : Int) ≤ (f : Int) := by omega
  have LK := Lib.hid (fun k => below_drewN L2.out k)
  clear hB hb2 hb3 hcell hP hf hE hEE
  go_wp2_with fail
  go_quiet ((go_at_call 58; exact Calls.quiet_of_same ((T.out _).mono fun e w' ⟨he, hw⟩ => ⟨he, hw.symm⟩)))
  all_goals
    go_wp2_with fail
    refine (isPage_any _ _).mono ?_
    rintro e w' ⟨rfl, rfl⟩
    by_cases hp : 0 ≤ P ∧ P ≤ 2147483647
    case neg =>
      rw [isPage_no hp]
      have NO := Lib.hid (show ¬ isCh F m i E from fun k => hp (HCH.out.1 k).1)
      clear hp
      obtain ⟨c0, c1, e0, e1, f0, f1, lw⟩ := C1.out _ (LK.out nq)
      have hz := hzz.out _ (LK.out nq)
      have HS := Lib.hid (put2_at e0 e1 (.int .i64 0) (.slice none 0 0))
      have LB := Lib.hid ((lw.setCell (p := ⟨w.heap.size + 1, 0, none⟩) (by simp) (.int .i64 0)).setCell (p := ⟨w.heap.size + 1, 1, none⟩) (by simp) (.slice none 0 0))
      clear lw
      go_wp2_with fail
      obtain ⟨d0, d1⟩ := HS.out
      exact bodyPost_ret (v := .tuple #[.agg #[.int .i64 0, .slice none 0 0], .bool false, .bool false]) (by simp [results, Try.results37, go_sem, d0, d1]) rfl ⟨.inl ⟨NO.out, rfl⟩, LB.out⟩
    rw [isPage_yes hp]
    by_cases hf1 : f ≤ 1
    case neg =>
      have NO := Lib.hid (show ¬ isCh F m i E from fun k => hf1 (HCH.out.1 k).2)
      have hf2 : (1 : Int) < (f : Int) := by omega
      clear hp hf1
      obtain ⟨c0, c1, e0, e1, f0, f1, lw⟩ := C1.out _ (LK.out nq)
      have hz := hzz.out _ (LK.out nq)
      have HS := Lib.hid (put2_at e0 e1 (.int .i64 0) (.slice none 0 0))
      have LB := Lib.hid ((lw.setCell (p := ⟨w.heap.size + 1, 0, none⟩) (by simp) (.int .i64 0)).setCell (p := ⟨w.heap.size + 1, 1, none⟩) (by simp) (.slice none 0 0))
      clear lw
      go_wp2_with fail
      obtain ⟨d0, d1⟩ := HS.out
      exact bodyPost_ret (v := .tuple #[.agg #[.int .i64 0, .slice none 0 0], .bool false, .bool false]) (by simp [results, Try.results37, go_sem, d0, d1]) rfl ⟨.inl ⟨NO.out, rfl⟩, LB.out⟩
    have YES := Lib.hid (HCH.out.2 ⟨hp, hf1⟩)
    have hf2 : ¬ (1 : Int) < (f : Int) := by omega
    have hfl := Lib.hid (show ((f : Int) == 1) = decide (flagN F = 1) by
      have e : flagN F = f := HF.out.symm
      rw [e]
      by_cases k : f = 1
      · subst k; rfl
      · rw [decide_eq_false k]; simp; omega)
    obtain ⟨c0, c1, e0, e1, f0, f1, lw⟩ := C1.out _ (LK.out nq)
    have hz := hzz.out _ (LK.out nq)
    have h9m : (9 : Int) ≤ ((m - 16 : Nat) : Int) := by omega
    have HS := Lib.hid (put2_at e0 e1 (.int .i64 P) (.slice (some ⟨bb, oo + 9, none⟩) (m - 16 - 9) (d - 9)))
    have LB := Lib.hid ((lw.setCell (p := ⟨w.heap.size + 1, 0, none⟩) (by simp) (.int .i64 P)).setCell (p := ⟨w.heap.size + 1, 1, none⟩) (by simp) (.slice (some ⟨bb, oo + 9, none⟩) (m - 16 - 9) (d - 9)))
    have HW := Lib.hid (put2_bytes (z := w.heap.size + 1) (y := oo + 7) ((HBT.out.below (below_drewN (Below.refl _ _) nq) (Nat.le_refl _)).cut 9 (m - 25) (by omega)) (.int .i64 P) (.slice (some ⟨bb, oo + 9, none⟩) (m - 16 - 9) (d - 9)))
    clear lw hp hf1
    go_wp2_with fail
    obtain ⟨d0, d1⟩ := HS.out
    have e25 : m - 16 - 9 = m - 25 := by omega
    refine bodyPost_ret (v := .tuple #[.agg #[.int .i64 P, .slice (some ⟨bb, oo + 9, none⟩) (m - 16 - 9) (d - 9)], .bool ((f : Int) == 1), .bool true]) (by simp [results, Try.results37, go_sem, d0, d1, HF.out]) rfl ⟨.inr ⟨YES.out, some ⟨bb, oo + 9, none⟩, d - 9, ?_, HW.out.congr fun i hi => ?_, by omega, by omega, (fun k => by cases k), fun b' o' e => by injection e with e; injection e with e1 e2; rw [← e1]; exact HD5.out⟩, LB.out⟩
    · rw [hfl.out, ← HP.out, e25]
    · show F (16 + (9 + i)) = F (25 + i)
      rw [show 16 + (9 + i) = 25 + i by omega]
end Go.Proofs.Ytmikemijdglgaaa
/- A disk that is not there: what each call tells. -/
namespace Go.Proofs.Ytmikemijdglgaaa
open Go.RowKit

theorem arm_nil (n : Int) (w : World) : Calls Try.prog 32 #[.pointer none, .int .i64 n] w fun e w' => e = .returned (.tuple #[]) ∧ w = w' := by
  go_enter Try.func32, Try.ntmps32
  go_wp2
  go_end0
  exact ⟨rfl, rfl⟩
theorem crash_nil (v : Value) (w : World) : Calls Try.prog 33 #[.pointer none, v] w fun e w' => e = .returned (.tuple #[]) ∧ w = w' := by
  go_enter Try.func33, Try.ntmps33
  go_wp2
  refine bodyPost_ret (results_none rfl _ _ _) rfl ?_
  exact ⟨rfl, rfl⟩
theorem reach_nil (n : Int) (w : World) : Calls Try.prog 41 #[.pointer none, .int .i64 n] w fun e w' => e = .returned (.int .i64 1) ∧ w = w' := by
  go_enter Try.func41, Try.ntmps41
  go_wp2
  go_ret
  exact ⟨rfl, rfl⟩
theorem read_nil (n : Int) (w : World) : Calls Try.prog 18 #[.pointer none, .int .i64 n] w fun e w' => e = .returned (.tuple #[.slice none 0 0, .int .i64 1]) ∧ w = w' := by
  go_enter Try.func18, Try.ntmps18
  go_wp2_with (go_at_call 41; refine (reach_nil _ _).mono ?_; rintro e w' ⟨rfl, rfl⟩)
  go_ret2
  exact ⟨rfl, rfl⟩
theorem write_nil (n : Int) (v : Value) (w : World) : Calls Try.prog 26 #[.pointer none, .int .i64 n, v] w fun e w' => e = .returned (.int .i64 1) ∧ w = w' := by
  go_enter Try.func26, Try.ntmps26
  go_wp2_with (go_at_call 41; refine (reach_nil _ _).mono ?_; rintro e w' ⟨rfl, rfl⟩)
  go_ret
  exact ⟨rfl, rfl⟩
theorem flush_nil (w : World) : Calls Try.prog 52 #[.pointer none] w fun e w' => e = .returned (.int .i64 1) ∧ w = w' := by
  go_enter Try.func52, Try.ntmps52
  go_wp2
  go_ret
  exact ⟨rfl, rfl⟩
theorem loose_nil (w : World) : Calls Try.prog 28 #[.pointer none] w fun e w' => e = .returned (.int .i64 0) ∧ w = w' := by
  go_enter Try.func28, Try.ntmps28
  go_wp2
  go_ret
  exact ⟨rfl, rfl⟩
theorem sectors_nil (w : World) : Calls Try.prog 56 #[.pointer none] w fun e w' => e = .returned (.int .i64 0) ∧ w = w' := by
  go_enter Try.func56, Try.ntmps56
  go_wp2
  go_ret
  exact ⟨rfl, rfl⟩
theorem size_nil (w : World) : Calls Try.prog 50 #[.pointer none] w fun e w' => e = .returned (.int .i64 0) ∧ w = w' := by
  go_enter Try.func50, Try.ntmps50
  go_wp2
  go_ret
  exact ⟨rfl, rfl⟩
theorem new_nil (n s : Int) (w : World) (h : n < 1 ∨ 1048576 < n ∨ s < 64 ∨ 4096 < s) : Calls Try.prog 10 #[.int .i64 n, .int .i64 s] w fun e w' => e = .returned (.pointer none) ∧ w = w' := by
  by_cases h1 : n < 1
  · clear h
    go_enter Try.func10, Try.ntmps10
    go_wp2
    go_ret
    exact ⟨rfl, rfl⟩
  · by_cases h2 : 1048576 < n
    · clear h
      go_enter Try.func10, Try.ntmps10
      go_wp2
      go_ret
      exact ⟨rfl, rfl⟩
    · by_cases h3 : s < 64
      · clear h
        go_enter Try.func10, Try.ntmps10
        go_wp2
        go_ret
        exact ⟨rfl, rfl⟩
      · have h4 : 4096 < s := by omega
        clear h
        go_enter Try.func10, Try.ntmps10
        go_wp2
        go_ret
        exact ⟨rfl, rfl⟩

/-- full: so many bytes of one kind. -/
def fullF (c m : Nat) (i : Nat) : Nat := if i < m then c else 0
end Go.Proofs.Ytmikemijdglgaaa
/- What a disk is in memory: its struct, its two lists of sectors, its loose writes; read as plain data. -/
namespace Go.Proofs.Ytmikemijdglgaaa
open Go.RowKit

/-- Which blocks the bytes of a disk's sectors may lie in. -/
class Spare where
  ok : Nat → Prop
def Bs [Spare] (base g : Nat) : Prop := base ≤ g ∧ Spare.ok g
/-- A sector's value: nil stands for bytes that are all 0; else a block of bytes of the call's own. -/
def SecV [Spare] (w : World) (base size : Nat) (v : Value) (F : Nat → Nat) : Prop :=
  (∀ i, i < size → F i < 256) ∧ ((v = .slice none 0 0 ∧ ∀ i, i < size → F i = 0) ∨
    ∃ g c cs, v = .slice (some ⟨g, 0, none⟩) size c ∧ size ≤ c ∧ c ≤ 9223372036854775807 ∧ Bs base g ∧ w.heap[g]? = some (.cells cs 5 (0, 0)) ∧ ∀ i, i < size → cs[i]? = some (.int .u8 (F i)))
/-- No block of bytes has turned. -/
def KeepB [Spare] (base : Nat) (w w' : World) : Prop := ∀ g cs, Bs base g → w.heap[g]? = some (.cells cs 5 (0, 0)) → w'.heap[g]? = some (.cells cs 5 (0, 0))
theorem KeepB.refl [Spare] (base : Nat) (w : World) : KeepB base w w := fun _ _ _ h => h
theorem KeepB.trans [Spare] {base : Nat} {a b c : World} (h : KeepB base a b) (k : KeepB base b c) : KeepB base a c := fun g cs hb hg => k g cs hb (h g cs hb hg)
theorem SecV.keep [Spare] {w w' : World} {base size : Nat} {v : Value} {F : Nat → Nat} (h : SecV w base size v F) (k : KeepB base w w') : SecV w' base size v F := by
  refine ⟨h.1, ?_⟩
  rcases h.2 with h2 | ⟨g, c, cs, h1, h2, h3, h4, h5, h6⟩
  · exact .inl h2
  · exact .inr ⟨g, c, cs, h1, h2, h3, h4, k g cs h4 h5, h6⟩

/-- A loose write's bytes: never nil. -/
def SecN [Spare] (w : World) (base size : Nat) (v : Value) (F : Nat → Nat) : Prop := SecV w base size v F ∧ v ≠ .slice none 0 0
theorem SecN.keep [Spare] {w w' : World} {base size : Nat} {v : Value} {F : Nat → Nat} (h : SecN w base size v F) (k : KeepB base w w') : SecN w' base size v F := ⟨h.1.keep k, h.2⟩

/-- A disk as plain data: a sector is a function on numbers. -/
structure DS where
  N : Nat
  size : Nat
  fast : Nat → Nat → Nat
  now : Nat → Nat → Nat
  loose : List (Nat × (Nat → Nat))
  armed : Nat
  down : Bool
/-- Where it lies: the struct's block, the two lists' blocks, the second one's room, the slice of loose writes. -/
structure DM where
  p : Nat
  bf : Nat
  bn : Nat
  cn : Nat
  vl : Value
def looseCells : List (Nat × (Nat → Nat)) → List Value → List Value
  | x :: r, v :: vs => .int .i64 (x.1 : Int) :: v :: looseCells r vs
  | _, _ => []
def diskCells (M : DM) (S : DS) : Array Value := #[.int .i64 (S.size : Int), .slice (some ⟨M.bf, 0, none⟩) S.N S.N, .slice (some ⟨M.bn, 0, none⟩) S.N M.cn, M.vl, .int .i64 (S.armed : Int), .bool S.down]
structure Dsk [Spare] (w : World) (base : Nat) (M : DM) (S : DS) : Prop where
  hp : w.heap[M.p]? = some (.cells (diskCells M S) 78 (0, 0))
  bp : base ≤ M.p
  vf : ∃ V : Nat → Value, w.rowIs M.bf 42 S.N V ∧ ∀ i, i < S.N → SecV w base S.size (V i) (S.fast i)
  vn : ∃ V : Nat → Value, w.rowIs M.bn 42 M.cn V ∧ ∀ i, i < S.N → SecV w base S.size (V i) (S.now i)
  bfn : M.bf ≠ M.bn
  bbf : base ≤ M.bf
  bbn : base ≤ M.bn
  lo : ∃ vs : List Value, vs.length = S.loose.length ∧ w.ownsRow base 111 2 M.vl S.loose.length (looseCells S.loose vs) ∧ ∀ (j : Nat) (v : Value) (x : Nat × (Nat → Nat)), vs[j]? = some v → S.loose[j]? = some x → x.1 < S.N ∧ SecN w base S.size v x.2
  hN : 1 ≤ S.N ∧ S.N ≤ 1048576
  hS : 64 ≤ S.size ∧ S.size ≤ 4096
  hA : S.armed ≤ 9223372036854775807
  hL : S.loose.length ≤ 1000000
  hC : S.N ≤ M.cn ∧ M.cn ≤ 9223372036854775807
  hE : ∀ g, w.heap.size ≤ g → Spare.ok g

theorem size_set (w : World) (a : Addr) (v : Value) : (w.setCell a v).heap.size = w.heap.size := by simp [World.setCell]
theorem type_ne {w : World} {a b : Nat} {cs ds : Array Value} {t u : TypeId} (h : w.heap[a]? = some (.cells cs t (0, 0))) (k : w.heap[b]? = some (.cells ds u (0, 0))) (hne : t ≠ u) : a ≠ b := by
  rintro rfl
  rw [h] at k
  injection k with k
  injection k with _ k
  exact hne k

section
variable {w w' : World} {base : Nat} {M : DM} {S : DS}
theorem Dsk.cell [Spare] (h : Dsk w base M S) (i : Nat) : w.cell? ⟨M.p, i, none⟩ = (diskCells M S)[i]? := cell_of_row w M.p i _ _ _ h.hp
theorem Dsk.frozen [Spare] (h : Dsk w base M S) (i : Nat) : w.frozen? ⟨M.p, i, none⟩ = false := by simp [World.frozen?, h.hp]
theorem Dsk.c0 [Spare] (h : Dsk w base M S) : w.cell? ⟨M.p, 0, none⟩ = some (.int .i64 (S.size : Int)) := h.cell 0
theorem Dsk.c1 [Spare] (h : Dsk w base M S) : w.cell? ⟨M.p, 1, none⟩ = some (.slice (some ⟨M.bf, 0, none⟩) S.N S.N) := h.cell 1
theorem Dsk.c2 [Spare] (h : Dsk w base M S) : w.cell? ⟨M.p, 2, none⟩ = some (.slice (some ⟨M.bn, 0, none⟩) S.N M.cn) := h.cell 2
theorem Dsk.c3 [Spare] (h : Dsk w base M S) : w.cell? ⟨M.p, 3, none⟩ = some M.vl := h.cell 3
theorem Dsk.c4 [Spare] (h : Dsk w base M S) : w.cell? ⟨M.p, 4, none⟩ = some (.int .i64 (S.armed : Int)) := h.cell 4
theorem Dsk.c5 [Spare] (h : Dsk w base M S) : w.cell? ⟨M.p, 5, none⟩ = some (.bool S.down) := h.cell 5

/-- What does not turn the disk's own four blocks, nor bytes, leaves the disk as it is. -/
theorem Dsk.keep [Spare] (h : Dsk w base M S) (hp : w'.heap[M.p]? = w.heap[M.p]?) (hf : w'.heap[M.bf]? = w.heap[M.bf]?) (hn : w'.heap[M.bn]? = w.heap[M.bn]?) (hv : ∀ k, M.vl.ownBlock = some k → w'.heap[k]? = w.heap[k]?) (hb : KeepB base w w') (hz : w.heap.size ≤ w'.heap.size) : Dsk w' base M S := by
  obtain ⟨V, v1, v2⟩ := h.vf
  obtain ⟨U, u1, u2⟩ := h.vn
  obtain ⟨vs, l1, l2, l3⟩ := h.lo
  refine ⟨hp.trans h.hp, h.bp, ⟨V, v1.of_block hf, fun i hi => (v2 i hi).keep hb⟩, ⟨U, u1.of_block hn, fun i hi => (u2 i hi).keep hb⟩, h.bfn, h.bbf, h.bbn, ⟨vs, l1, ?_, fun j v x hj hx => ⟨(l3 j v x hj hx).1, (l3 j v x hj hx).2.keep hb⟩⟩, h.hN, h.hS, h.hA, h.hL, h.hC, fun g hg => h.hE g (Nat.le_trans hz hg)⟩
  refine ⟨l2.1, ?_⟩
  rcases l2.2 with h2 | ⟨g, cap, cur, e1, e2, e3, e4⟩
  · exact .inl h2
  · exact .inr ⟨g, cap, cur, e1, e2, (hv g (by rw [e1]; rfl)).trans e3, e4⟩
theorem Dsk.below [Spare] (h : Dsk w base M S) (hb : Below w.heap.size w w') : Dsk w' base M S := by
  have lt : ∀ {k : Nat} {o : Obj}, w.heap[k]? = some o → k < w.heap.size := fun e => (Array.getElem?_eq_some_iff.1 e).1
  obtain ⟨V, v1, _⟩ := h.vf
  obtain ⟨U, u1, _⟩ := h.vn
  obtain ⟨vs, _, l2, _⟩ := h.lo
  exact h.keep (hb.block _ (lt h.hp)) (hb.block _ v1.lt) (hb.block _ u1.lt) (fun k hk => hb.block _ (l2.lt k hk).2) (fun g cs _ hg => (hb.block g (lt hg)).trans hg) hb.size

/-- A store into the struct: armed, down. -/
theorem heap_store (w : World) (g i : Nat) (v : Value) (cs : Array Value) (t : TypeId) (h : w.heap[g]? = some (.cells cs t (0, 0))) : (w.setCell ⟨g, i, none⟩ v).heap[g]? = some (.cells (cs.setIfInBounds i v) t (0, 0)) := by
  simp [World.setCell, Array.getElem?_modify, h]
theorem keepB_store [Spare] {w : World} {base g i : Nat} {v : Value} {cs : Array Value} {t : TypeId} (h : w.heap[g]? = some (.cells cs t (0, 0))) (ht : t ≠ 5) : KeepB base w (w.setCell ⟨g, i, none⟩ v) := fun k ds _ hk => by
  have hne : k ≠ g := type_ne hk h (fun e => ht e.symm)
  rw [Below.heap_setCell w ⟨g, i, none⟩ v k hne]
  exact hk
theorem Dsk.store [Spare] (h : Dsk w base M S) (i : Nat) (v : Value) (S' : DS) (hc : (diskCells M S).setIfInBounds i v = diskCells M S') (e1 : S'.N = S.N) (e2 : S'.size = S.size) (e3 : S'.fast = S.fast) (e4 : S'.now = S.now) (e5 : S'.loose = S.loose) (hA : S'.armed ≤ 9223372036854775807) :
    Dsk (w.setCell ⟨M.p, i, none⟩ v) base M S' := by
  obtain ⟨V, v1, v2⟩ := h.vf
  obtain ⟨U, u1, u2⟩ := h.vn
  obtain ⟨vs, l1, l2, l3⟩ := h.lo
  have hb : KeepB base w (w.setCell ⟨M.p, i, none⟩ v) := keepB_store h.hp (by decide)
  have nf : M.bf ≠ M.p := by obtain ⟨c, hc, _⟩ := v1; exact type_ne hc h.hp (by decide)
  have nn : M.bn ≠ M.p := by obtain ⟨c, hc, _⟩ := u1; exact type_ne hc h.hp (by decide)
  refine ⟨?_, h.bp, ⟨V, ?_, fun j hj => ?_⟩, ⟨U, ?_, fun j hj => ?_⟩, h.bfn, h.bbf, h.bbn, ⟨vs, ?_, ?_, fun j u x hj hx => ?_⟩, by rw [e1]; exact h.hN, by rw [e2]; exact h.hS, hA, by rw [e5]; exact h.hL, by rw [e1]; exact h.hC, fun g hg => h.hE g (by rw [← size_set w ⟨M.p, i, none⟩ v]; exact hg)⟩
  · rw [← hc]; exact heap_store w _ _ _ _ _ h.hp
  · rw [e1]; exact v1.setOther nf v
  · rw [e2, e3]; exact (v2 j (by rw [← e1]; exact hj)).keep hb
  · exact u1.setOther nn v
  · rw [e2, e4]; exact (u2 j (by rw [← e1]; exact hj)).keep hb
  · rw [e5]; exact l1
  · rw [e5]
    refine ⟨l2.1, ?_⟩
    rcases l2.2 with h2 | ⟨g, cap, cur, a1, a2, a3, a4⟩
    · exact .inl h2
    · have ng : g ≠ M.p := type_ne a3 h.hp (by decide)
      exact .inr ⟨g, cap, cur, a1, a2, (Below.heap_setCell w ⟨M.p, i, none⟩ v g ng).trans a3, a4⟩
  · rw [e5] at hx
    rw [e1, e2]
    exact ⟨(l3 j u x hj hx).1, (l3 j u x hj hx).2.keep hb⟩
end

/-- Only the disk's own blocks have turned, and what is new. -/
structure Turns (base : Nat) (M : DM) (w w' : World) : Prop where
  os : w'.os = w.os
  tape : w'.tape = w.tape
  output : w'.output = w.output
  size : w.heap.size ≤ w'.heap.size
  block : ∀ k, k < w.heap.size → k ≠ M.p → k ≠ M.bf → k ≠ M.bn → M.vl.ownBlock ≠ some k → w'.heap[k]? = w.heap[k]?
theorem Turns.refl (base : Nat) (M : DM) (w : World) : Turns base M w w := ⟨rfl, rfl, rfl, Nat.le_refl _, fun _ _ _ _ _ _ => rfl⟩
theorem Turns.trans {base : Nat} {M : DM} {a b c : World} (h : Turns base M a b) (k : Turns base M b c) : Turns base M a c :=
  ⟨k.os.trans h.os, k.tape.trans h.tape, k.output.trans h.output, Nat.le_trans h.size k.size, fun i hi e1 e2 e3 e4 => (k.block i (Nat.lt_of_lt_of_le hi h.size) e1 e2 e3 e4).trans (h.block i hi e1 e2 e3 e4)⟩
theorem Turns.of_below {base : Nat} {M : DM} {w w' : World} (h : Below w.heap.size w w') : Turns base M w w' := ⟨h.os, h.tape, h.output, h.size, fun k hk _ _ _ _ => h.block k hk⟩
theorem Turns.store {base : Nat} {M : DM} (w : World) (i : Nat) (v : Value) : Turns base M w (w.setCell ⟨M.p, i, none⟩ v) :=
  ⟨rfl, rfl, rfl, by simp [World.setCell], fun k _ hk _ _ _ => Below.heap_setCell w ⟨M.p, i, none⟩ v k hk⟩
end Go.Proofs.Ytmikemijdglgaaa
/- The disk's small calls. -/
namespace Go.Proofs.Ytmikemijdglgaaa
open Go.RowKit

/-- Why a sector can't be asked for. -/
def reachI (S : DS) (at_ : Int) : Int := if S.down = true then 4 else if at_ < 0 ∨ (S.N : Int) ≤ at_ then 2 else 0
theorem reach_any [Spare] (at_ : Int) (w : World) (base : Nat) (M : DM) (S : DS) (h : Dsk w base M S) :
    Calls Try.prog 41 #[.pointer (some ⟨M.p, 0, none⟩), .int .i64 at_] w fun e w' => e = .returned (.int .i64 (reachI S at_)) ∧ w = w' := by
  have hc2 := h.c2
  have hc5 := h.c5
  have hN := h.hN
  by_cases hd : S.down = true
  · have R := Lib.hid (show reachI S at_ = 4 from if_pos hd)
    rw [hd] at hc5
    clear hd
    go_enter Try.func41, Try.ntmps41
    go_wp2
    go_ret
    exact ⟨by rw [R.out]; rfl, rfl⟩
  · have hd2 : S.down = false := by simpa using hd
    rw [hd2] at hc5
    by_cases h1 : at_ < 0
    · have R := Lib.hid (show reachI S at_ = 2 by unfold reachI; rw [if_neg hd, if_pos (.inl h1)])
      clear hd hd2
      go_enter Try.func41, Try.ntmps41
      go_wp2
      go_ret
      exact ⟨by rw [R.out]; rfl, rfl⟩
    · by_cases h2 : (S.N : Int) ≤ at_
      · have R := Lib.hid (show reachI S at_ = 2 by unfold reachI; rw [if_neg hd, if_pos (.inr h2)])
        clear hd hd2
        go_enter Try.func41, Try.ntmps41
        go_wp2
        go_ret
        exact ⟨by rw [R.out]; rfl, rfl⟩
      · have R := Lib.hid (show reachI S at_ = 0 by unfold reachI; rw [if_neg hd, if_neg (by omega)])
        clear hd hd2
        go_enter Try.func41, Try.ntmps41
        go_wp2
        go_ret
        exact ⟨by rw [R.out]; rfl, rfl⟩

/-- What a write or a flush counts. -/
def strikeS (S : DS) : DS := if S.armed = 0 then S else if S.armed = 1 then { S with armed := 0, down := true } else { S with armed := S.armed - 1 }
def strikeI (S : DS) : Int := if S.armed = 1 then 4 else 0
theorem strike_any [Spare] (w : World) (base : Nat) (M : DM) (S : DS) (h : Dsk w base M S) :
    Calls Try.prog 49 #[.pointer (some ⟨M.p, 0, none⟩)] w fun e w' => e = .returned (.int .i64 (strikeI S)) ∧ Dsk w' base M (strikeS S) ∧ Turns base M w w' ∧ KeepB base w w' := by
  have hc4 := h.c4
  have hc5 := h.c5
  have hA := h.hA
  have f4 := h.frozen 4
  have f5 := h.frozen 5
  by_cases h0 : S.armed = 0
  · have R := Lib.hid (show strikeI S = 0 by unfold strikeI; rw [if_neg (by omega)])
    have RS := Lib.hid (show strikeS S = S from if_pos h0)
    rw [h0] at hc4
    clear h0 hA
    go_enter Try.func49, Try.ntmps49
    go_wp2
    go_ret
    exact ⟨by rw [R.out]; rfl, by rw [RS.out]; exact h, Turns.refl _ _ _, KeepB.refl _ _⟩
  · have hne : ((S.armed : Int) == 0) = false := by simp; omega
    by_cases h1 : S.armed = 1
    · have R := Lib.hid (show strikeI S = 4 from if_pos h1)
      have RS := Lib.hid (show strikeS S = { S with armed := 0, down := true } by unfold strikeS; rw [if_neg h0, if_pos h1])
      have k1 := h.store 4 (.int .i64 0) { S with armed := 0 } rfl rfl rfl rfl rfl rfl (by simp)
      have k2 := k1.store 5 (.bool true) { S with armed := 0, down := true } rfl rfl rfl rfl rfl rfl (by simp)
      have t2 : Turns base M w _ := (Turns.store w 4 (.int .i64 0)).trans (Turns.store _ 5 (.bool true))
      have b2 := (keepB_store (base := base) (i := 4) (v := .int .i64 0) h.hp (by decide)).trans (keepB_store (base := base) (i := 5) (v := .bool true) k1.hp (by decide))
      have K2 := Lib.hid k2
      have T2 := Lib.hid t2
      have B2 := Lib.hid b2
      rw [h1] at hc4
      clear h0 h1 hA hne k1 k2 t2 b2
      go_enter Try.func49, Try.ntmps49
      go_wp2
      go_ret
      exact ⟨by rw [R.out]; rfl, by rw [RS.out]; exact K2.out, T2.out, B2.out⟩
    · have R := Lib.hid (show strikeI S = 0 from if_neg h1)
      have RS := Lib.hid (show strikeS S = { S with armed := S.armed - 1 } by unfold strikeS; rw [if_neg h0, if_neg h1])
      have e1 : ((S.armed - 1 : Nat) : Int) = (S.armed : Int) - 1 := by omega
      have k1 := h.store 4 (.int .i64 ((S.armed : Int) - 1)) { S with armed := S.armed - 1 } (by unfold diskCells; rw [e1]; rfl) rfl rfl rfl rfl rfl (by simp; omega)
      have b1 := keepB_store (base := base) (i := 4) (v := .int .i64 ((S.armed : Int) - 1)) h.hp (by decide)
      have t1 : Turns base M w _ := Turns.store w 4 (.int .i64 ((S.armed : Int) - 1))
      have K2 := Lib.hid k1
      have T2 := Lib.hid t1
      have B2 := Lib.hid b1
      have h2 : 2 ≤ S.armed := by omega
      clear h0 h1 k1 t1 b1 e1
      go_enter Try.func49, Try.ntmps49
      go_wp2
      go_ret
      exact ⟨by rw [R.out]; rfl, by rw [RS.out]; exact K2.out, T2.out, B2.out⟩

def armS (S : DS) (n : Int) : DS := { S with armed := n.toNat }
theorem arm_any [Spare] (n : Int) (w : World) (base : Nat) (M : DM) (S : DS) (hd : Dsk w base M S) (hn : n ≤ 9223372036854775807) :
    Calls Try.prog 32 #[.pointer (some ⟨M.p, 0, none⟩), .int .i64 n] w fun e w' => e = .returned (.tuple #[]) ∧ Dsk w' base M (armS S n) ∧ Turns base M w w' ∧ KeepB base w w' := by
  have hc4 := hd.c4
  have f4 := hd.frozen 4
  have k1 := Lib.hid (hd.store 4 (.int .i64 (n.toNat : Int)) (armS S n) rfl rfl rfl rfl rfl rfl (by simp [armS]; omega))
  have b1 := Lib.hid (keepB_store (base := base) (i := 4) (v := .int .i64 (n.toNat : Int)) hd.hp (by decide))
  have t1 := Lib.hid (show Turns base M w _ from Turns.store w 4 (.int .i64 (n.toNat : Int)))
  go_enter Try.func32, Try.ntmps32
  go_wp2
  · have e : ((n.toNat : Nat) : Int) = 0 := by omega
    have K := k1.out
    have B := b1.out
    have T := t1.out
    rw [e] at K B T
    go_end0
    exact ⟨rfl, K, T, B⟩
  · have e : ((n.toNat : Nat) : Int) = n := by omega
    have K := k1.out
    have B := b1.out
    have T := t1.out
    rw [e] at K B T
    go_end0
    exact ⟨rfl, K, T, B⟩
theorem sectors_any [Spare] (w : World) (base : Nat) (M : DM) (S : DS) (h : Dsk w base M S) :
    Calls Try.prog 56 #[.pointer (some ⟨M.p, 0, none⟩)] w fun e w' => e = .returned (.int .i64 (S.N : Int)) ∧ w = w' := by
  have hc2 := h.c2
  have hN := h.hN
  go_enter Try.func56, Try.ntmps56
  go_wp2
  go_ret
  exact ⟨rfl, rfl⟩
theorem size_any [Spare] (w : World) (base : Nat) (M : DM) (S : DS) (h : Dsk w base M S) :
    Calls Try.prog 50 #[.pointer (some ⟨M.p, 0, none⟩)] w fun e w' => e = .returned (.int .i64 (S.size : Int)) ∧ w = w' := by
  have hc0 := h.c0
  go_enter Try.func50, Try.ntmps50
  go_wp2
  go_ret
  exact ⟨rfl, rfl⟩
theorem loose_any [Spare] (w : World) (base : Nat) (M : DM) (S : DS) (h : Dsk w base M S) :
    Calls Try.prog 28 #[.pointer (some ⟨M.p, 0, none⟩)] w fun e w' => e = .returned (.int .i64 (S.loose.length : Int)) ∧ w = w' := by
  have hc3 := h.c3
  have hL := h.hL
  obtain ⟨vs, _, l2, _⟩ := h.lo
  obtain ⟨A, c, hv⟩ : ∃ A c, M.vl = .slice A S.loose.length c := by
    rcases l2.2 with ⟨h1, h2⟩ | ⟨g, cap, cur, e1, _⟩
    · exact ⟨none, 0, by rw [h1, h2]⟩
    · exact ⟨_, _, e1⟩
  rw [hv] at hc3
  clear hv l2
  go_enter Try.func28, Try.ntmps28
  go_wp2
  go_ret
  exact ⟨rfl, rfl⟩

theorem SecV.bytes [Spare] {w : World} {base size : Nat} {v : Value} {F : Nat → Nat} (h : SecV w base size v F) (hs : size ≤ 4096) : ∃ A n c, v = .slice A n c ∧ Bytes w A n F ∧ n ≤ size ∧ (∀ i, n ≤ i → i < size → F i = 0) ∧ (A = none → c = 0) := by
  rcases h.2 with ⟨rfl, h0⟩ | ⟨g, c, cs, rfl, h2, h3, h4, h5, h6⟩
  · exact ⟨none, 0, 0, rfl, none_bytes _ _, by omega, fun i _ hi => h0 i hi, fun _ => rfl⟩
  · refine ⟨some ⟨g, 0, none⟩, size, c, rfl, ⟨by omega, h.1, fun _ => ⟨g, 0, rfl, fun i hi => ?_⟩⟩, Nat.le_refl _, fun i h1 h2 => by omega, fun e => by cases e⟩
    rw [Nat.zero_add]
    have := cell_of_row w g i cs _ _ h5
    rw [this]
    exact h6 i hi

/-- A copy of a sector's bytes, also of one that was never written. -/
theorem whole_any [Spare] (v : Value) (F : Nat → Nat) (w : World) (base : Nat) (M : DM) (S : DS) (h : Dsk w base M S) (hv : SecV w base S.size v F) :
    Calls Try.prog 42 #[.pointer (some ⟨M.p, 0, none⟩), v] w fun e w' => e = .returned (.slice (some ⟨w.heap.size, 0, none⟩) S.size S.size) ∧ BRow w' w.heap.size S.size F ∧ Below w.heap.size w w' := by
  obtain ⟨A, n, c, rfl, hb, hn, hz, _⟩ := hv.bytes h.hS.2
  have hc0 := h.c0
  obtain ⟨s, hs⟩ : ∃ s, s = S.size := ⟨_, rfl⟩
  have hS := h.hS
  rw [← hs] at hc0 hn hz hS ⊢
  clear hs hv
  have hmk := run_make_row' (P := Try.prog) 42 5 (.int .u8 0) 1 Try.underlying42 u8info rfl .i64 .i64 s (by omega) (by omega)
  have r0 := BRow.made w s (by omega)
  have l0 := (Below.refl w.heap.size w).alloc (Nat.le_refl _) (.cells (madeCells #[.int .u8 0] s) 5)
  have sb := Lib.hid (hb.below l0 (Nat.le_refl _))
  have R0 := Lib.hid r0
  have L0 := Lib.hid l0
  clear r0 l0
  go_enter Try.func42, Try.ntmps42
  go_wp2_with (with_reducible refine wpList_copy_bytes rfl (.tmp 11) (.tmp 12) 42 42 rfl Try.underlying42 u8size _ _ _ _ _ _ rfl rfl w.heap.size 0 s n _ _ R0.out sb.out ?e1 ?e2 ?e3 ?e4)
  case e1 => exact (Nat.min_eq_left hn).symm
  case e3 => omega
  case e4 =>
    intro W2 r2 g2
    have l2 : Below w.heap.size w W2 := L0.out.grown g2 (by simp) (by rintro j ⟨⟩; exact Nat.le_refl _)
    have r3 : BRow W2 w.heap.size s F := r2.congr fun i hi => by
      by_cases h1 : i < n
      · rw [copyF_in (by omega) (by omega), Nat.sub_zero]
      · rw [copyF_out (by omega), hz i (by omega) hi]; rfl
    clear r2 g2
    go_wp2
    go_ret
    exact ⟨rfl, r3, l2⟩
  all_goals exact fun _ => rfl

/-- What Read tells: a sector's bytes, in memory of its own. -/
theorem readDisk_ok [Spare] (k : Nat) (w : World) (base : Nat) (M : DM) (S : DS) (h : Dsk w base M S) (hk : k < S.N) (hd : S.down = false) :
    Calls Try.prog 18 #[.pointer (some ⟨M.p, 0, none⟩), .int .i64 k] w fun e w' => e = .returned (.tuple #[.slice (some ⟨w.heap.size, 0, none⟩) S.size S.size, .int .i64 0]) ∧ BRow w' w.heap.size S.size (S.now k) ∧ Below w.heap.size w w' := by
  have hN := h.hN
  have R := Lib.hid (show reachI S k = 0 by unfold reachI; rw [if_neg (by rw [hd]; simp), if_neg (by omega)])
  have hc2 := h.c2
  obtain ⟨V, v1, v2⟩ := h.vn
  have hck := v1.cell (i := k) (by have := h.hC; omega)
  have hC := h.hC
  have hsec := Lib.hid (v2 k hk)
  clear hd v1 v2
  go_enter Try.func18, Try.ntmps18
  go_wp2_with fail
  refine (reach_any k w base M S h).mono ?_
  rintro e w' ⟨rfl, rfl⟩
  rw [R.out]
  go_wp2_with fail
  refine (whole_any (V k) _ w base M S h hsec.out).mono ?_
  rintro e w' ⟨rfl, r1, l1⟩
  go_wp2
  go_ret2
  exact ⟨rfl, r1, l1⟩
theorem readDisk_no [Spare] (at_ : Int) (w : World) (base : Nat) (M : DM) (S : DS) (h : Dsk w base M S) (hne : reachI S at_ ≠ 0) :
    Calls Try.prog 18 #[.pointer (some ⟨M.p, 0, none⟩), .int .i64 at_] w fun e w' => e = .returned (.tuple #[.slice none 0 0, .int .i64 (reachI S at_)]) ∧ w = w' := by
  have q : (reachI S at_ != 0) = true := by rw [bne_iff_ne]; exact hne
  clear hne
  go_enter Try.func18, Try.ntmps18
  go_wp2_with fail
  refine (reach_any at_ w base M S h).mono ?_
  rintro e w' ⟨rfl, rfl⟩
  go_wp2
  go_ret2
  exact ⟨rfl, rfl⟩
end Go.Proofs.Ytmikemijdglgaaa
/- log.Room, log.placeOf. -/
namespace Go.Proofs.Ytmikemijdglgaaa
open Go.RowKit
set_option linter.unusedVariables false

theorem lroom_any (n : Int) (w : World) (h0 : -9223372036854775808 ≤ n) (h1 : n ≤ 9223372036854775807) :
    Calls Try.prog 24 #[.int .i64 n] w fun e w' => e = .returned (.int .i64 (roomI n - 9)) ∧ w = w' := by
  have rr : 0 ≤ roomI n ∧ roomI n ≤ 4060 := by unfold roomI; split <;> omega
  obtain ⟨r0, r1⟩ := rr
  go_enter Try.func24, Try.ntmps24
  go_wp2_with (go_at_call 47; refine (room_any _ _ h0 h1).mono ?_; rintro e w' ⟨rfl, rfl⟩)
  go_ret
  exact ⟨rfl, rfl⟩
/-- May a log stand there, on N sectors? -/
def plB (N first count : Int) : Prop := 0 ≤ first ∧ 1 ≤ count ∧ count ≤ 1048576 ∧ count ≤ N - first
theorem placeNil_any (first count : Int) (w : World) :
    Calls Try.prog 34 #[.pointer none, .int .i64 first, .int .i64 count] w fun e w' => e = .returned (.tuple #[.agg #[.pointer none, .int .i64 0, .int .i64 0], .int .i64 1]) ∧ Below w.heap.size w w' := by
  go_enter Try.func34, Try.ntmps34
  go_wp2
  exact bodyPost_ret (v := .tuple #[.agg #[.pointer none, .int .i64 0, .int .i64 0], .int .i64 1]) (by simp [results, Try.results34, go_sem]) rfl ⟨rfl, (Below.refl _ _).alloc (Nat.le_refl _) _⟩
theorem placeOf_any [Spare] (first count : Int) (w : World) (base : Nat) (M : DM) (S : DS) (h : Dsk w base M S) (f0 : -9223372036854775808 ≤ first) (f1 : first ≤ 9223372036854775807) (c1 : count ≤ 9223372036854775807) :
    Calls Try.prog 34 #[.pointer (some ⟨M.p, 0, none⟩), .int .i64 first, .int .i64 count] w fun e w' =>
      (plB S.N first count ∧ e = .returned (.tuple #[.agg #[.pointer (some ⟨M.p, 0, none⟩), .int .i64 first, .int .i64 count], .int .i64 0]) ∨ ¬ plB S.N first count ∧ e = .returned (.tuple #[.agg #[.pointer none, .int .i64 0, .int .i64 0], .int .i64 1])) ∧ Below w.heap.size w w' := by
  have hN := h.hN.2
  have K := Lib.hid (fun (W : World) (l : Below w.heap.size w W) => sectors_any W base M S (h.below l))
  clear h
  by_cases a0 : first < 0
  · have NO := Lib.hid (show ¬ plB S.N first count from fun k => by have := k.1; omega)
    go_enter Try.func34, Try.ntmps34
    go_wp2
    exact bodyPost_ret (v := .tuple #[.agg #[.pointer none, .int .i64 0, .int .i64 0], .int .i64 1]) (by simp [results, Try.results34, go_sem]) rfl ⟨.inr ⟨NO.out, rfl⟩, (Below.refl _ _).alloc (Nat.le_refl _) _⟩
  by_cases a1 : count < 1
  · have NO := Lib.hid (show ¬ plB S.N first count from fun k => by have := k.2.1; omega)
    go_enter Try.func34, Try.ntmps34
    go_wp2
    exact bodyPost_ret (v := .tuple #[.agg #[.pointer none, .int .i64 0, .int .i64 0], .int .i64 1]) (by simp [results, Try.results34, go_sem]) rfl ⟨.inr ⟨NO.out, rfl⟩, (Below.refl _ _).alloc (Nat.le_refl _) _⟩
  by_cases a2 : 1048576 < count
  · have NO := Lib.hid (show ¬ plB S.N first count from fun k => by have := k.2.2.1; omega)
    go_enter Try.func34, Try.ntmps34
    go_wp2
    exact bodyPost_ret (v := .tuple #[.agg #[.pointer none, .int .i64 0, .int .i64 0], .int .i64 1]) (by simp [results, Try.results34, go_sem]) rfl ⟨.inr ⟨NO.out, rfl⟩, (Below.refl _ _).alloc (Nat.le_refl _) _⟩
  obtain ⟨D, hD⟩ : ∃ D : Int, D = (S.N : Int) - first := ⟨_, rfl⟩
  have w0 : IntKind.i64.wrap ((S.N : Int) - first) = D := by rw [IntKind.wrap_i64]; omega
  by_cases a3 : D < count
  · have NO := Lib.hid (show ¬ plB S.N first count from fun k => by have := k.2.2.2; omega)
    clear hD
    go_enter Try.func34, Try.ntmps34
    go_wp2_with (go_at_call 56; refine (K.out _ ((Below.refl _ _).alloc (Nat.le_refl _) _)).mono ?_; rintro e w' ⟨rfl, rfl⟩)
    exact bodyPost_ret (v := .tuple #[.agg #[.pointer none, .int .i64 0, .int .i64 0], .int .i64 1]) (by simp [results, Try.results34, go_sem]) rfl ⟨.inr ⟨NO.out, rfl⟩, (Below.refl _ _).alloc (Nat.le_refl _) _⟩
  · have YES := Lib.hid (show plB S.N first count from ⟨by omega, by omega, by omega, by omega⟩)
    clear hD
    go_enter Try.func34, Try.ntmps34
    go_wp2_with (go_at_call 56; refine (K.out _ ((Below.refl _ _).alloc (Nat.le_refl _) _)).mono ?_; rintro e w' ⟨rfl, rfl⟩)
    exact bodyPost_ret (v := .tuple #[.agg #[.pointer (some ⟨M.p, 0, none⟩), .int .i64 first, .int .i64 count], .int .i64 0]) (by simp [results, Try.results34, go_sem]) rfl ⟨.inl ⟨YES.out, rfl⟩, (Below.refl _ _).alloc (Nat.le_refl _) _⟩
end Go.Proofs.Ytmikemijdglgaaa
