/- The contracts of parts, putPair, isPair and Room. -/
import Derived.Test.YtmeijienfdefjaaFPut
import Derived.BigQuiet
import Derived.Deep.QuietTactic
namespace Go.Proofs.Ytmeijienfdefjaa
open Go.RowKit

set_option maxHeartbeats 400000 in
theorem parts_any (b o m c : Nat) (w : World) (hc : m + 20 ≤ c) (hm : c ≤ 9223372036854775807) :
    Calls Try.prog 69 #[.slice (some ⟨b, o, none⟩) (m + 20) c] w fun e w' =>
      e = .returned (.tuple #[.slice (some ⟨b, o, none⟩) m m, .slice (some ⟨b, o + m, none⟩) 4 4, .slice (some ⟨b, o + (m + 4), none⟩) 16 (c - (m + 4))]) ∧ ∃ q, w.drewN q = w' := by
  go_enter Try.func69, Try.ntmps69
  go_wp2
  go_quiet (fail)
  go_wp2
  go_ret3
  have e3 : m + 20 - 16 = m + 4 := by omega
  have e4 : m + 20 - (m + 4) = 16 := by omega
  refine ⟨?_, _, rfl⟩
  simp only [e3, e4] at *
  simp

theorem not_model64 {c : Nat} (h : c < 18446744073709551616) : bits BinOp.xor IntKind.u64 IntKind.u64.max (c : Int) = ((18446744073709551615 - c : Nat) : Int) := by
  have hm : IntKind.u64.max = 18446744073709551615 := by decide
  rw [hm]
  have e := u64_xor_nat 18446744073709551615 c (by omega) h
  rw [xor_all 64 c h] at e
  exact e
/-- What putPair leaves. -/
def pairF (F : Nat → Nat) (off v : Nat) : Nat → Nat := putF (putF F off 8 v) (off + 8) 8 (18446744073709551615 - v)

set_option maxHeartbeats 400000 in
theorem putPair_any (g off m c n v : Nat) (F : Nat → Nat) (w : World) (h : BRow w g n F) (h16 : 16 ≤ m) (hm : off + m ≤ n) (hc : m ≤ c) (hv : v < 18446744073709551616) :
    Calls Try.prog 70 #[.slice (some ⟨g, off, none⟩) m c, .int .u64 v] w fun e w' => e = .returned (.tuple #[]) ∧ BRow w' g n (pairF F off v) ∧ w.grownBy w' (some g) := by
  have hs64 : IntKind.u64.signed = false := rfl
  have hx := Lib.hid (not_model64 hv)
  go_enter Try.func70, Try.ntmps70
  go_wp2_with fail
  refine (put64_any g off 8 _ n v F _ h (by omega) (by omega)).mono ?_
  rintro e w1 ⟨rfl, h1, g1⟩
  go_wp2_with fail
  rw [hx.out]
  refine (put64_any g (off + 8) 8 _ n _ _ _ h1 (by omega) (by omega)).mono ?_
  rintro e w2 ⟨rfl, h2, g2⟩
  go_wp2
  go_end0
  exact ⟨rfl, h2, g1.trans g2⟩

def pairB (F : Nat → Nat) (v : Nat) : Bool := decide (leTo F 8 = v ∧ leTo (fun i => F (8 + i)) 8 = 18446744073709551615 - v)
theorem pairB_t {F : Nat → Nat} {v : Nat} (h1 : leTo F 8 = v) (h2 : leTo (fun i => F (8 + i)) 8 = 18446744073709551615 - v) : pairB F v = true := decide_eq_true ⟨h1, h2⟩
theorem pairB_f1 {F : Nat → Nat} {v : Nat} (h1 : ¬ leTo F 8 = v) : pairB F v = false := decide_eq_false fun h => h1 h.1
theorem pairB_f2 {F : Nat → Nat} {v : Nat} (h1 : ¬ leTo (fun i => F (8 + i)) 8 = 18446744073709551615 - v) : pairB F v = false := decide_eq_false fun h => h1 h.2

set_option maxHeartbeats 400000 in
theorem isPair_any (b o n c v : Nat) (F : Nat → Nat) (w : World) (h : Bytes w (some ⟨b, o, none⟩) n F) (h16 : 16 ≤ n) (hc : n ≤ c) (hv : v < 18446744073709551616) :
    Calls Try.prog 75 #[.slice (some ⟨b, o, none⟩) n c, .int .u64 v] w fun e w' => e = .returned (.bool (pairB F v)) ∧ w = w' := by
  have hs64 : IntKind.u64.signed = false := rfl
  have hx := Lib.hid (not_model64 hv)
  by_cases p1 : leTo F 8 = v
  · have q1 : ((leTo F 8 : Int) == (v : Int)) = true := by simp [p1]
    have pq : pairB F v = ((leTo (fun i => F (8 + i)) 8 : Int) == ((18446744073709551615 - v : Nat) : Int)) := by
      by_cases p2 : leTo (fun i => F (8 + i)) 8 = 18446744073709551615 - v
      · rw [pairB_t p1 p2, p2]; simp
      · rw [pairB_f2 p2]
        exact (beq_eq_false_iff_ne.2 (by omega)).symm
    have P := Lib.hid pq
    clear p1 pq
    go_enter Try.func75, Try.ntmps75
    go_wp2_with fail
    refine (take64_any _ 8 _ F _ (h.head 8 (by omega)) (by omega)).mono ?_
    rintro e w1 ⟨rfl, rfl⟩
    go_wp2_with fail
    refine (take64_any _ 8 _ _ _ (h.cut 8 8 (by omega)) (by omega)).mono ?_
    rintro e w1 ⟨rfl, rfl⟩
    go_wp2_with fail
    rw [hx.out]
    go_ret
    exact ⟨by rw [P.out]; rfl, rfl⟩
  · have P := Lib.hid (pairB_f1 p1)
    have q1 : ((leTo F 8 : Int) == (v : Int)) = false := by simp; omega
    clear p1
    go_enter Try.func75, Try.ntmps75
    go_wp2_with fail
    refine (take64_any _ 8 _ F _ (h.head 8 (by omega)) (by omega)).mono ?_
    rintro e w1 ⟨rfl, rfl⟩
    go_wp2
    go_ret
    exact ⟨by rw [P.out]; rfl, rfl⟩

def roomI (n : Int) : Int := if 64 ≤ n ∧ n ≤ 4096 then n - 36 else 0

theorem room_any (n : Int) (w : World) (h0 : -9223372036854775808 ≤ n) (h1 : n ≤ 9223372036854775807) :
    Calls Try.prog 47 #[.int .i64 n] w fun e w' => e = .returned (.int .i64 (roomI n)) ∧ w = w' := by
  by_cases h : 64 ≤ n ∧ n ≤ 4096
  · have R : Hid (roomI n = n - 36) := Lib.hid (if_pos h)
    obtain ⟨ha, hb⟩ := h
    have T := fitsB_t ha hb
    go_enter Try.func47, Try.ntmps47
    go_wp2_with (go_at_call 65; refine (fits_any _ _).mono ?_; rintro e w' ⟨rfl, rfl⟩)
    go_ret
    exact ⟨by rw [R.out]; rfl, rfl⟩
  · have R : Hid (roomI n = 0) := Lib.hid (if_neg h)
    have T := fitsB_f (n := n) (by omega)
    clear h
    go_enter Try.func47, Try.ntmps47
    go_wp2_with (go_at_call 65; refine (fits_any _ _).mono ?_; rintro e w' ⟨rfl, rfl⟩)
    go_ret
    exact ⟨by rw [R.out]; rfl, rfl⟩

theorem refRoom_any (n : Int) (w : World) (h0 : -9223372036854775808 ≤ n) (h1 : n ≤ 9223372036854775807) :
    Calls Try.prog 38 #[.int .i64 n] w fun e w' => e = .returned (.int .i64 (roomI n)) ∧ w = w' := by
  by_cases h : 64 ≤ n ∧ n ≤ 4096
  · have R : Hid (roomI n = n - 36) := Lib.hid (if_pos h)
    obtain ⟨ha, hb⟩ := h
    go_enter Try.func38, Try.ntmps38
    go_wp2
    go_ret
    exact ⟨by rw [R.out]; rfl, rfl⟩
  · have R : Hid (roomI n = 0) := Lib.hid (if_neg h)
    by_cases ha : 64 ≤ n
    · have hb : 4096 < n := by omega
      clear h
      go_enter Try.func38, Try.ntmps38
      go_wp2
      go_ret
      exact ⟨by rw [R.out]; rfl, rfl⟩
    · clear h
      go_enter Try.func38, Try.ntmps38
      go_wp2
      go_ret
      exact ⟨by rw [R.out]; rfl, rfl⟩
end Go.Proofs.Ytmeijienfdefjaa
