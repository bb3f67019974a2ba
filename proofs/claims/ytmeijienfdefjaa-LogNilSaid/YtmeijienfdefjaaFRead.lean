/- The contracts of Clone and of Read. -/
import Derived.Test.YtmeijienfdefjaaMStr
import Derived.Test.YtmeijienfdefjaaFOk
import Derived.Test.YtmeijienfdefjaaFStr
namespace Go.Proofs.Ytmeijienfdefjaa
open Go.RowKit

theorem read_size (A : Option Addr) (n c : Nat) (w : World) (h : n < 64 ∨ 4096 < n) (hn : n ≤ 9223372036854775807) :
    Calls Try.prog 64 #[.slice A n c] w fun e w' => e = .returned (.tuple #[.int .i64 0, .slice none 0 0, .int .i64 3]) ∧ w = w' := by
  have hT : fitsB (n : Int) = false := fitsB_f (by omega)
  have HT := Lib.hid hT
  clear h hT
  go_enter Try.func64, Try.ntmps64
  go_wp2_with fail
  refine (fits_any _ _).mono ?_
  rintro e w' ⟨rfl, rfl⟩
  rw [HT.out]
  go_wp2
  go_ret3
  exact ⟨rfl, rfl⟩

set_option maxHeartbeats 1000000 in
theorem read_yes2 (b o n m c : Nat) (F : Nat → Nat) (w : World) (h1 : m + 20 ≤ n) (h2 : n ≤ m + 20) (h44 : 44 ≤ m) (hm : m ≤ 4076) (hc : n ≤ c) (hc2 : c ≤ 9223372036854775807) (hb : Bytes w (some ⟨b, o, none⟩) n F) (hok : okP F m) :
    Calls Try.prog 64 #[.slice (some ⟨b, o, none⟩) n c] w fun e w' =>
      ∃ B d, e = .returned (.tuple #[.int .i64 (leTo F 8), .slice B (m - 16) d, .int .i64 0]) ∧ Bytes w' B (m - 16) (fun i => F (16 + i)) ∧ m - 16 ≤ d ∧ (B = none → d = 0) ∧ Below w.heap.size w w' ∧ d ≤ 9223372036854775807 ∧ (∀ b' o', B = some ⟨b', o', none⟩ → w.heap.size ≤ b') := by
  obtain ⟨⟨k1, k2⟩, p1, p2, p3⟩ := hok
  have hT : fitsB (n : Int) = true := fitsB_t (by omega) (by omega)
  have HT := Lib.hid hT
  have P1 := Lib.hid p1
  have P2 := Lib.hid p2
  have P3 := Lib.hid p3
  have hlt := crc_lt F m
  clear hT p1 p2 p3
  go_enter Try.func64, Try.ntmps64
  go_wp2_with fail
  refine (fits_any _ _).mono ?_
  rintro e w' ⟨rfl, rfl⟩
  rw [HT.out]
  go_wp2_with fail
  refine (parts_at _ _ _ m _ _ h1 h2 hc hc2).mono ?_
  rintro e w' ⟨rfl, q, rfl⟩
  have hb1 : Bytes (w.drewN q) (some ⟨b, o, none⟩) n F := hb
  have l1 := below_drewN (Below.refl w.heap.size w) q
  generalize World.drewN w q = W1 at *
  have hbm := hb1.head m (by omega)
  have hv1 : (1 : Int) ≤ (leTo F 8 : Int) := by omega
  have hv2 : (leTo F 8 : Int) ≤ 4611686018427387904 := by omega
  go_wp2_with fail
  refine (take64_any _ 8 _ F _ (hb1.head 8 (by omega)) (by omega)).mono ?_
  rintro e w' ⟨rfl, rfl⟩
  obtain ⟨v, hvv⟩ : ∃ v, v = leTo F 8 := ⟨_, rfl⟩
  rw [← hvv] at hv1 hv2 P1 P2 k1 k2 ⊢
  have HV := Lib.hid hvv
  clear hvv
  go_wp2_with fail
  refine (isPair_any b o m m v F W1 hbm (by omega) (by omega) (by omega)).mono ?_
  rintro e w' ⟨rfl, rfl⟩
  rw [P1.out]
  go_wp2_with fail
  refine (isPair_any b (o + (m + 4)) 16 _ v _ W1 (hb1.cut (m + 4) 16 (by omega)) (by omega) (by omega) (by omega)).mono ?_
  rintro e w' ⟨rfl, rfl⟩
  rw [P2.out]
  go_wp2_with fail
  refine (take32_any _ 4 _ _ _ (hb1.cut m 4 (by omega)) (by omega)).mono ?_
  rintro e w' ⟨rfl, rfl⟩
  rw [P3.out]
  go_wp2_with fail
  refine (check_any _ m _ F W1 hbm).mono ?_
  rintro e w' ⟨rfl, rfl⟩
  have q3 : ((crc F m : Int) != (crc F m : Int)) = false := by simp
  go_wp2_with fail
  refine (clone_any b (o + 16) (m - 16) _ _ W1 (hbm.cut 16 (m - 16) (by omega)) (by omega)).mono ?_
  rintro e W2 ⟨B, d, rfl, o2, l2⟩
  have l3 : Below w.heap.size w W2 := l1.trans (l2.mono l1.size)
  have b2 := o2.bytes
  have d2 := o2.2.2.1
  have d3 := o2.2.2.2.2
  have d4 := o2.2.2.2.1
  have d5 : ∀ b' o', B = some ⟨b', o', none⟩ → w.heap.size ≤ b' := fun b' o' e => Nat.le_trans l1.size (o2.base_le (by rw [e]; rfl)).1
  have hw64 : IntKind.i64.wrap (v : Int) = (v : Int) := by rw [IntKind.wrap_i64]; omega
  clear o2 l2 hb1 hbm l1
  go_wp2
  go_ret3
  exact ⟨B, d, by rw [← HV.out]; rfl, b2, d2, d3, l3, d4, d5⟩
theorem read_yes (b o n m c : Nat) (F : Nat → Nat) (w : World) (h1 : m + 20 ≤ n) (h2 : n ≤ m + 20) (h44 : 44 ≤ m) (hm : m ≤ 4076) (hc : n ≤ c) (hc2 : c ≤ 9223372036854775807) (hb : Bytes w (some ⟨b, o, none⟩) n F) (hok : okP F m) :
    Calls Try.prog 64 #[.slice (some ⟨b, o, none⟩) n c] w fun e w' =>
      ∃ B d, e = .returned (.tuple #[.int .i64 (leTo F 8), .slice B (m - 16) d, .int .i64 0]) ∧ Bytes w' B (m - 16) (fun i => F (16 + i)) ∧ m - 16 ≤ d ∧ (B = none → d = 0) ∧ Below w.heap.size w w' :=
  (read_yes2 b o n m c F w h1 h2 h44 hm hc hc2 hb hok).mono fun _ _ ⟨B, d, e1, e2, e3, e4, e5, _⟩ => ⟨B, d, e1, e2, e3, e4, e5⟩
end Go.Proofs.Ytmeijienfdefjaa
