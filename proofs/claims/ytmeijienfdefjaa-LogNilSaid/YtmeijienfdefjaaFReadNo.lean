/- Read of what is no sector. -/
import Derived.Test.YtmeijienfdefjaaFRead
namespace Go.Proofs.Ytmeijienfdefjaa
open Go.RowKit

set_option maxHeartbeats 1000000 in
theorem read_no_low (b o n m c : Nat) (F : Nat → Nat) (w : World) (h1 : m + 20 ≤ n) (h2 : n ≤ m + 20) (h44 : 44 ≤ m) (hm : m ≤ 4076) (hc : n ≤ c) (hc2 : c ≤ 9223372036854775807) (hb : Bytes w (some ⟨b, o, none⟩) n F) (k1 : leTo F 8 < 1) :
    Calls Try.prog 64 #[.slice (some ⟨b, o, none⟩) n c] w fun e w' => e = .returned (.tuple #[.int .i64 0, .slice none 0 0, .int .i64 5]) ∧ Below w.heap.size w w' := by
  have hT : fitsB (n : Int) = true := fitsB_t (by omega) (by omega)
  have HT := Lib.hid hT
  clear hT
  go_enter Try.func64, Try.ntmps64
  go_wp2_with fail
  refine (fits_any _ _).mono ?_
  rintro e w' ⟨rfl, rfl⟩
  rw [HT.out]
  go_wp2_with fail
  refine (parts_at _ _ _ m _ _ h1 h2 hc hc2).mono ?_
  rintro e w' ⟨rfl, q, rfl⟩
  have hb1 : Bytes (w.drewN q) (some ⟨b, o, none⟩) n F := hb
  have l1 := below_drewN (Below.refl w.heap.size w) q
  generalize World.drewN w q = W1 at *
  have hbm := hb1.head m (by omega)
  have hv1 : (leTo F 8 : Int) < 1 := by omega
  go_wp2_with fail
  refine (take64_any _ 8 _ F _ (hb1.head 8 (by omega)) (by omega)).mono ?_
  rintro e w' ⟨rfl, rfl⟩
  obtain ⟨v, hvv⟩ : ∃ v, v = leTo F 8 := ⟨_, rfl⟩
  rw [← hvv] at hv1 ⊢
  clear hvv k1
  go_wp2
  go_ret3
  exact ⟨rfl, l1⟩

set_option maxHeartbeats 1000000 in
theorem read_no_high (b o n m c : Nat) (F : Nat → Nat) (w : World) (h1 : m + 20 ≤ n) (h2 : n ≤ m + 20) (h44 : 44 ≤ m) (hm : m ≤ 4076) (hc : n ≤ c) (hc2 : c ≤ 9223372036854775807) (hb : Bytes w (some ⟨b, o, none⟩) n F) (k1 : 4611686018427387904 < leTo F 8) :
    Calls Try.prog 64 #[.slice (some ⟨b, o, none⟩) n c] w fun e w' => e = .returned (.tuple #[.int .i64 0, .slice none 0 0, .int .i64 5]) ∧ Below w.heap.size w w' := by
  have hT : fitsB (n : Int) = true := fitsB_t (by omega) (by omega)
  have HT := Lib.hid hT
  clear hT
  go_enter Try.func64, Try.ntmps64
  go_wp2_with fail
  refine (fits_any _ _).mono ?_
  rintro e w' ⟨rfl, rfl⟩
  rw [HT.out]
  go_wp2_with fail
  refine (parts_at _ _ _ m _ _ h1 h2 hc hc2).mono ?_
  rintro e w' ⟨rfl, q, rfl⟩
  have hb1 : Bytes (w.drewN q) (some ⟨b, o, none⟩) n F := hb
  have l1 := below_drewN (Below.refl w.heap.size w) q
  generalize World.drewN w q = W1 at *
  have hbm := hb1.head m (by omega)
  have hv1 : (1 : Int) ≤ (leTo F 8 : Int) := by omega
  have hv2 : (4611686018427387904 : Int) < (leTo F 8 : Int) := by omega
  go_wp2_with fail
  refine (take64_any _ 8 _ F _ (hb1.head 8 (by omega)) (by omega)).mono ?_
  rintro e w' ⟨rfl, rfl⟩
  obtain ⟨v, hvv⟩ : ∃ v, v = leTo F 8 := ⟨_, rfl⟩
  rw [← hvv] at hv1 hv2 ⊢
  clear hvv k1
  go_wp2
  go_ret3
  exact ⟨rfl, l1⟩

set_option maxHeartbeats 1000000 in
theorem read_no_first (b o n m c : Nat) (F : Nat → Nat) (w : World) (h1 : m + 20 ≤ n) (h2 : n ≤ m + 20) (h44 : 44 ≤ m) (hm : m ≤ 4076) (hc : n ≤ c) (hc2 : c ≤ 9223372036854775807) (hb : Bytes w (some ⟨b, o, none⟩) n F) (k1 : 1 ≤ leTo F 8) (k2 : leTo F 8 ≤ 4611686018427387904) (p1 : pairB F (leTo F 8) = false) :
    Calls Try.prog 64 #[.slice (some ⟨b, o, none⟩) n c] w fun e w' => e = .returned (.tuple #[.int .i64 0, .slice none 0 0, .int .i64 5]) ∧ Below w.heap.size w w' := by
  have hT : fitsB (n : Int) = true := fitsB_t (by omega) (by omega)
  have HT := Lib.hid hT
  have P1 := Lib.hid p1
  clear p1
  clear hT
  go_enter Try.func64, Try.ntmps64
  go_wp2_with fail
  refine (fits_any _ _).mono ?_
  rintro e w' ⟨rfl, rfl⟩
  rw [HT.out]
  go_wp2_with fail
  refine (parts_at _ _ _ m _ _ h1 h2 hc hc2).mono ?_
  rintro e w' ⟨rfl, q, rfl⟩
  have hb1 : Bytes (w.drewN q) (some ⟨b, o, none⟩) n F := hb
  have l1 := below_drewN (Below.refl w.heap.size w) q
  generalize World.drewN w q = W1 at *
  have hbm := hb1.head m (by omega)
  have hv1 : (1 : Int) ≤ (leTo F 8 : Int) := by omega
  have hv2 : (leTo F 8 : Int) ≤ 4611686018427387904 := by omega
  go_wp2_with fail
  refine (take64_any _ 8 _ F _ (hb1.head 8 (by omega)) (by omega)).mono ?_
  rintro e w' ⟨rfl, rfl⟩
  obtain ⟨v, hvv⟩ : ∃ v, v = leTo F 8 := ⟨_, rfl⟩
  rw [← hvv] at hv1 hv2 k1 k2 P1 ⊢
  clear hvv
  go_wp2_with fail
  refine (isPair_any b o m m v F W1 hbm (by omega) (by omega) (by omega)).mono ?_
  rintro e w' ⟨rfl, rfl⟩
  rw [P1.out]
  go_wp2
  go_ret3
  exact ⟨rfl, l1⟩

set_option maxHeartbeats 1000000 in
theorem read_no_last (b o n m c : Nat) (F : Nat → Nat) (w : World) (h1 : m + 20 ≤ n) (h2 : n ≤ m + 20) (h44 : 44 ≤ m) (hm : m ≤ 4076) (hc : n ≤ c) (hc2 : c ≤ 9223372036854775807) (hb : Bytes w (some ⟨b, o, none⟩) n F) (k1 : 1 ≤ leTo F 8) (k2 : leTo F 8 ≤ 4611686018427387904) (p1 : pairB F (leTo F 8) = true) (p2 : pairB (fun i => F (m + 4 + i)) (leTo F 8) = false) :
    Calls Try.prog 64 #[.slice (some ⟨b, o, none⟩) n c] w fun e w' => e = .returned (.tuple #[.int .i64 0, .slice none 0 0, .int .i64 5]) ∧ Below w.heap.size w w' := by
  have hT : fitsB (n : Int) = true := fitsB_t (by omega) (by omega)
  have HT := Lib.hid hT
  have P1 := Lib.hid p1
  have P2 := Lib.hid p2
  clear p1 p2
  clear hT
  go_enter Try.func64, Try.ntmps64
  go_wp2_with fail
  refine (fits_any _ _).mono ?_
  rintro e w' ⟨rfl, rfl⟩
  rw [HT.out]
  go_wp2_with fail
  refine (parts_at _ _ _ m _ _ h1 h2 hc hc2).mono ?_
  rintro e w' ⟨rfl, q, rfl⟩
  have hb1 : Bytes (w.drewN q) (some ⟨b, o, none⟩) n F := hb
  have l1 := below_drewN (Below.refl w.heap.size w) q
  generalize World.drewN w q = W1 at *
  have hbm := hb1.head m (by omega)
  have hv1 : (1 : Int) ≤ (leTo F 8 : Int) := by omega
  have hv2 : (leTo F 8 : Int) ≤ 4611686018427387904 := by omega
  go_wp2_with fail
  refine (take64_any _ 8 _ F _ (hb1.head 8 (by omega)) (by omega)).mono ?_
  rintro e w' ⟨rfl, rfl⟩
  obtain ⟨v, hvv⟩ : ∃ v, v = leTo F 8 := ⟨_, rfl⟩
  rw [← hvv] at hv1 hv2 k1 k2 P1 P2 ⊢
  clear hvv
  go_wp2_with fail
  refine (isPair_any b o m m v F W1 hbm (by omega) (by omega) (by omega)).mono ?_
  rintro e w' ⟨rfl, rfl⟩
  rw [P1.out]
  go_wp2_with fail
  refine (isPair_any b (o + (m + 4)) 16 _ v _ W1 (hb1.cut (m + 4) 16 (by omega)) (by omega) (by omega) (by omega)).mono ?_
  rintro e w' ⟨rfl, rfl⟩
  rw [P2.out]
  go_wp2
  go_ret3
  exact ⟨rfl, l1⟩

set_option maxHeartbeats 1000000 in
theorem read_no_sum (b o n m c : Nat) (F : Nat → Nat) (w : World) (h1 : m + 20 ≤ n) (h2 : n ≤ m + 20) (h44 : 44 ≤ m) (hm : m ≤ 4076) (hc : n ≤ c) (hc2 : c ≤ 9223372036854775807) (hb : Bytes w (some ⟨b, o, none⟩) n F) (k1 : 1 ≤ leTo F 8) (k2 : leTo F 8 ≤ 4611686018427387904) (p1 : pairB F (leTo F 8) = true) (p2 : pairB (fun i => F (m + 4 + i)) (leTo F 8) = true) (p3 : ¬ leTo (fun i => F (m + i)) 4 = crc F m) :
    Calls Try.prog 64 #[.slice (some ⟨b, o, none⟩) n c] w fun e w' => e = .returned (.tuple #[.int .i64 0, .slice none 0 0, .int .i64 5]) ∧ Below w.heap.size w w' := by
  have hT : fitsB (n : Int) = true := fitsB_t (by omega) (by omega)
  have HT := Lib.hid hT
  have P1 := Lib.hid p1
  have P2 := Lib.hid p2
  have p4 : ((leTo (fun i => F (m + i)) 4 : Int) != (crc F m : Int)) = true := by rw [bne_iff_ne]; omega
  have P3 := Lib.hid p4
  clear p1 p2 p3 p4
  clear hT
  go_enter Try.func64, Try.ntmps64
  go_wp2_with fail
  refine (fits_any _ _).mono ?_
  rintro e w' ⟨rfl, rfl⟩
  rw [HT.out]
  go_wp2_with fail
  refine (parts_at _ _ _ m _ _ h1 h2 hc hc2).mono ?_
  rintro e w' ⟨rfl, q, rfl⟩
  have hb1 : Bytes (w.drewN q) (some ⟨b, o, none⟩) n F := hb
  have l1 := below_drewN (Below.refl w.heap.size w) q
  generalize World.drewN w q = W1 at *
  have hbm := hb1.head m (by omega)
  have hv1 : (1 : Int) ≤ (leTo F 8 : Int) := by omega
  have hv2 : (leTo F 8 : Int) ≤ 4611686018427387904 := by omega
  go_wp2_with fail
  refine (take64_any _ 8 _ F _ (hb1.head 8 (by omega)) (by omega)).mono ?_
  rintro e w' ⟨rfl, rfl⟩
  obtain ⟨v, hvv⟩ : ∃ v, v = leTo F 8 := ⟨_, rfl⟩
  rw [← hvv] at hv1 hv2 k1 k2 P1 P2 ⊢
  clear hvv
  go_wp2_with fail
  refine (isPair_any b o m m v F W1 hbm (by omega) (by omega) (by omega)).mono ?_
  rintro e w' ⟨rfl, rfl⟩
  rw [P1.out]
  go_wp2_with fail
  refine (isPair_any b (o + (m + 4)) 16 _ v _ W1 (hb1.cut (m + 4) 16 (by omega)) (by omega) (by omega) (by omega)).mono ?_
  rintro e w' ⟨rfl, rfl⟩
  rw [P2.out]
  go_wp2_with fail
  refine (take32_any _ 4 _ _ _ (hb1.cut m 4 (by omega)) (by omega)).mono ?_
  rintro e w' ⟨rfl, rfl⟩
  go_wp2_with fail
  refine (check_any _ m _ F W1 hbm).mono ?_
  rintro e w' ⟨rfl, rfl⟩
  have q3 := P3.out
  go_wp2
  go_ret3
  exact ⟨rfl, l1⟩

theorem read_no (b o n m c : Nat) (F : Nat → Nat) (w : World) (h1 : m + 20 ≤ n) (h2 : n ≤ m + 20) (h44 : 44 ≤ m) (hm : m ≤ 4076) (hc : n ≤ c) (hc2 : c ≤ 9223372036854775807) (hb : Bytes w (some ⟨b, o, none⟩) n F) (hok : ¬ okP F m) :
    Calls Try.prog 64 #[.slice (some ⟨b, o, none⟩) n c] w fun e w' => e = .returned (.tuple #[.int .i64 0, .slice none 0 0, .int .i64 5]) ∧ Below w.heap.size w w' := by
  by_cases k1 : leTo F 8 < 1
  · exact read_no_low b o n m c F w h1 h2 h44 hm hc hc2 hb k1
  · by_cases k2 : 4611686018427387904 < leTo F 8
    · exact read_no_high b o n m c F w h1 h2 h44 hm hc hc2 hb k2
    · by_cases p1 : pairB F (leTo F 8) = true
      · by_cases p2 : pairB (fun i => F (m + 4 + i)) (leTo F 8) = true
        · by_cases p3 : leTo (fun i => F (m + i)) 4 = crc F m
          · exact absurd ⟨⟨by omega, by omega⟩, p1, p2, p3⟩ hok
          · exact read_no_sum b o n m c F w h1 h2 h44 hm hc hc2 hb (by omega) (by omega) p1 p2 p3
        · exact read_no_last b o n m c F w h1 h2 h44 hm hc hc2 hb (by omega) (by omega) p1 (by simpa using p2)
      · exact read_no_first b o n m c F w h1 h2 h44 hm hc hc2 hb (by omega) (by omega) (by simpa using p1)
end Go.Proofs.Ytmeijienfdefjaa
