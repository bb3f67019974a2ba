/- The contracts of fits, Room, put and take. -/
import Derived.Test.YtmeijienfdefjaaFMem
namespace Go.Proofs.Ytmeijienfdefjaa
open Go.RowKit

def fitsB (n : Int) : Bool := decide (64 ≤ n ∧ n ≤ 4096)
theorem fitsB_t {n : Int} (h1 : 64 ≤ n) (h2 : n ≤ 4096) : fitsB n = true := decide_eq_true ⟨h1, h2⟩
theorem fitsB_f {n : Int} (h : n < 64 ∨ 4096 < n) : fitsB n = false := decide_eq_false (by omega)

theorem fits_any (n : Int) (w : World) : Calls Try.prog 65 #[.int .i64 n] w fun e w' => e = .returned (.bool (fitsB n)) ∧ w = w' := by
  by_cases h1 : 64 ≤ n
  · by_cases h2 : n ≤ 4096
    · have h := fitsB_t h1 h2
      have H := Lib.hid h
      clear h
      go_enter Try.func65, Try.ntmps65
      go_wp2
      go_ret
      exact ⟨by rw [H.out]; rfl, rfl⟩
    · have h := fitsB_f (n := n) (by omega)
      have H := Lib.hid h
      clear h
      go_enter Try.func65, Try.ntmps65
      go_wp2
      go_ret
      exact ⟨by rw [H.out]; rfl, rfl⟩
  · have h := fitsB_f (n := n) (by omega)
    have H := Lib.hid h
    clear h
    go_enter Try.func65, Try.ntmps65
    go_wp2
    go_ret
    exact ⟨by rw [H.out]; rfl, rfl⟩

/-- What put leaves: of m bytes from off on the number's bytes. -/
def putF (F : Nat → Nat) (off m v : Nat) (i : Nat) : Nat := if off ≤ i ∧ i < off + m then v / 256 ^ (i - off) % 256 else F i

theorem byte_at (v k : Nat) : ((v : Int) / 2 ^ (8 * k) % 256) = ((v / 256 ^ k % 256 : Nat) : Int) := by
  have e : (2 : Int) ^ (8 * k) = ((256 ^ k : Nat) : Int) := by rw [Int.pow_mul]; simp
  rw [e]
  simp
theorem putF_zero (F : Nat → Nat) (off v i : Nat) : F i = putF F off 0 v i := by unfold putF; rw [if_neg (by omega)]
theorem putF_step (F : Nat → Nat) (off k v i : Nat) : (if i = off + k then v / 256 ^ k % 256 else putF F off k v i) = putF F off (k + 1) v i := by
  unfold putF
  by_cases h : i = off + k
  · subst h; rw [if_pos rfl, if_pos (by omega)]; simp
  · rw [if_neg h]
    by_cases h2 : off ≤ i ∧ i < off + k
    · rw [if_pos h2, if_pos (by omega)]
    · rw [if_neg h2, if_neg (by omega)]

set_option maxHeartbeats 400000 in
theorem put64_any (g off m c n v : Nat) (F : Nat → Nat) (w : World) (h : BRow w g n F) (hm : off + m ≤ n) (hm8 : m ≤ 8) :
    Calls Try.prog 77 #[.slice (some ⟨g, off, none⟩) m c, .int .u64 v] w fun e w' => e = .returned (.tuple #[]) ∧ BRow w' g n (putF F off m v) ∧ w.grownBy w' (some g) := by
  go_enter Try.func77, Try.ntmps77
  go_wp2
  go_loopw [7] (fun i wr => ∃ k : Nat, k ≤ m ∧ i = .int .i64 k ∧ BRow wr g n (putF F off k v) ∧ w.grownBy wr (some g)) (fun i _ => m - (intOf i).toNat)
  case atStart => exact ⟨0, Nat.zero_le _, rfl, h.congr fun i _ => by unfold putF; rw [if_neg (by omega)], World.grownBy.refl w _⟩
  case round =>
    obtain ⟨k, hk, rfl, hr, hg⟩ := hrel
    by_cases hlt : k < m
    · have hc := hr.cell (i := off + k) (by omega)
      have hf := hr.frozen (off + k)
      go_wp2
      rw [byte_at]
      go_roundw
      case rel => exact ⟨k + 1, by omega, by go_num, (hr.set_ (off + k) _ (Nat.mod_lt _ (by omega))).congr fun i _ => putF_step F off k v i, hg.trans (grown_store _ _ _)⟩
      case measure => simp [intOf]; omega
    · obtain rfl : k = m := by omega
      go_wp2
      go_end0
      exact ⟨rfl, hr, hg⟩

set_option maxHeartbeats 400000 in
theorem put32_any (g off m c n v : Nat) (F : Nat → Nat) (w : World) (h : BRow w g n F) (hm : off + m ≤ n) (hm8 : m ≤ 4) :
    Calls Try.prog 71 #[.slice (some ⟨g, off, none⟩) m c, .int .u32 v] w fun e w' => e = .returned (.tuple #[]) ∧ BRow w' g n (putF F off m v) ∧ w.grownBy w' (some g) := by
  go_enter Try.func71, Try.ntmps71
  go_wp2
  go_loopw [7] (fun i wr => ∃ k : Nat, k ≤ m ∧ i = .int .i64 k ∧ BRow wr g n (putF F off k v) ∧ w.grownBy wr (some g)) (fun i _ => m - (intOf i).toNat)
  case atStart => exact ⟨0, Nat.zero_le _, rfl, h.congr fun i _ => putF_zero F off v i, World.grownBy.refl w _⟩
  case round =>
    obtain ⟨k, hk, rfl, hr, hg⟩ := hrel
    by_cases hlt : k < m
    · have hc := hr.cell (i := off + k) (by omega)
      have hf := hr.frozen (off + k)
      go_wp2
      rw [byte_at]
      go_roundw
      case rel => exact ⟨k + 1, by omega, by go_num, (hr.set_ (off + k) _ (Nat.mod_lt _ (by omega))).congr fun i _ => putF_step F off k v i, hg.trans (grown_store _ _ _)⟩
      case measure => simp [intOf]; omega
    · obtain rfl : k = m := by omega
      go_wp2
      go_end0
      exact ⟨rfl, hr, hg⟩

/-- The number that bytes are, the lowest first. -/
def leTo (F : Nat → Nat) : Nat → Nat
  | 0 => 0
  | k + 1 => leTo F k + F k * 256 ^ k
theorem leTo_lt {F : Nat → Nat} : ∀ {n : Nat}, (∀ i, i < n → F i < 256) → leTo F n < 256 ^ n
  | 0, _ => by simp [leTo]
  | n + 1, h => by
    have h1 := leTo_lt (n := n) fun i hi => h i (by omega)
    have h2 := h n (by omega)
    have h3 := Nat.mul_le_mul_right (256 ^ n) (show F n ≤ 255 by omega)
    rw [leTo, Nat.pow_succ]
    omega
theorem leTo_congr {F G : Nat → Nat} : ∀ {n : Nat}, (∀ i, i < n → F i = G i) → leTo F n = leTo G n
  | 0, _ => rfl
  | n + 1, h => by rw [leTo, leTo, leTo_congr (n := n) fun i hi => h i (by omega), h n (by omega)]

theorem or_disjoint {x f k : Nat} (hx : x < 256 ^ k) : x ||| f * 256 ^ k = x + f * 256 ^ k := by
  have e : (256 : Nat) ^ k = 2 ^ (8 * k) := by rw [Nat.pow_mul]
  rw [e] at hx ⊢
  have h := Nat.two_pow_add_eq_or_of_lt hx f
  rw [Nat.mul_comm (2 ^ (8 * k)) f] at h
  rw [Nat.or_comm, ← h, Nat.add_comm]
theorem small_mul {f k b : Nat} (hf : f < 256) (hk : k < b) : f * 256 ^ k < 256 ^ b := by
  have h1 := Nat.mul_le_mul_right (256 ^ k) (show f ≤ 255 by omega)
  have h2 : (256 : Nat) ^ (k + 1) ≤ 256 ^ b := Nat.pow_le_pow_right (by omega) (by omega)
  rw [Nat.pow_succ] at h2
  have h3 : 0 < (256 : Nat) ^ k := Nat.pow_pos (by omega)
  omega
theorem or64 {x f k : Nat} (hx : x < 256 ^ k) (hf : f < 256) (hk : k < 8) :
    bits BinOp.or IntKind.u64 (x : Int) (IntKind.u64.wrap ((f : Int) * 2 ^ (8 * k))) = ((x + f * 256 ^ k : Nat) : Int) := by
  have e : (2 : Int) ^ (8 * k) = ((256 ^ k : Nat) : Int) := by rw [Int.pow_mul]; simp
  have h1 := small_mul hf hk
  have h2 : (256 : Nat) ^ k ≤ 256 ^ 8 := Nat.pow_le_pow_right (by omega) (by omega)
  have e8 : (256 : Nat) ^ 8 = 18446744073709551616 := by decide
  rw [e8] at h1 h2
  have e2 : IntKind.u64.wrap ((f : Int) * 2 ^ (8 * k)) = ((f * 256 ^ k : Nat) : Int) := by
    rw [e, ← Int.natCast_mul, IntKind.wrap_u64]
    omega
  rw [e2, u64_or_nat _ _ (by omega) h1, or_disjoint hx]
theorem or32 {x f k : Nat} (hx : x < 256 ^ k) (hf : f < 256) (hk : k < 4) :
    bits BinOp.or IntKind.u32 (x : Int) (IntKind.u32.wrap ((f : Int) * 2 ^ (8 * k))) = ((x + f * 256 ^ k : Nat) : Int) := by
  have e : (2 : Int) ^ (8 * k) = ((256 ^ k : Nat) : Int) := by rw [Int.pow_mul]; simp
  have h1 := small_mul hf hk
  have h2 : (256 : Nat) ^ k ≤ 256 ^ 4 := Nat.pow_le_pow_right (by omega) (by omega)
  have e8 : (256 : Nat) ^ 4 = 4294967296 := by decide
  rw [e8] at h1 h2
  have e2 : IntKind.u32.wrap ((f : Int) * 2 ^ (8 * k)) = ((f * 256 ^ k : Nat) : Int) := by
    rw [e, ← Int.natCast_mul, IntKind.wrap_u32']
    omega
  rw [e2, u32_or_nat _ _ (by omega) h1, or_disjoint hx]

set_option maxHeartbeats 400000 in
theorem take64_any (A : Option Addr) (n c : Nat) (F : Nat → Nat) (w : World) (h : Bytes w A n F) (hn8 : n ≤ 8) :
    Calls Try.prog 74 #[.slice A n c] w fun e w' => e = .returned (.int .u64 (leTo F n)) ∧ w = w' := by
  obtain ⟨hn, hF, hA⟩ := h
  go_enter Try.func74, Try.ntmps74
  go_wp2
  go_loop [3, 7] (fun t i => ∃ k : Nat, k ≤ n ∧ i = .int .i64 k ∧ t = .int .u64 (leTo F k)) (fun _ i => n - (intOf i).toNat)
  case atStart => exact ⟨0, Nat.zero_le _, rfl, rfl⟩
  case round =>
    obtain ⟨k, hk, rfl, rfl⟩ := hrel
    have hx := leTo_lt (F := F) (n := k) fun i hi => hF i (by omega)
    by_cases hlt : k < n
    · obtain ⟨b, o, rfl, hc⟩ := hA (by omega)
      have hck := hc k hlt
      have hFk := hF k hlt
      go_wp2
      go_round
      case rel =>
        refine ⟨k + 1, by omega, by go_num, ?_⟩
        exact congrArg _ (or64 hx hFk (by omega))
      case measure => simp [intOf]; omega
    · go_wp2
      obtain rfl : k = n := by omega
      go_ret
      exact ⟨rfl, rfl⟩

set_option maxHeartbeats 400000 in
theorem take32_any (A : Option Addr) (n c : Nat) (F : Nat → Nat) (w : World) (h : Bytes w A n F) (hn8 : n ≤ 4) :
    Calls Try.prog 76 #[.slice A n c] w fun e w' => e = .returned (.int .u32 (leTo F n)) ∧ w = w' := by
  obtain ⟨hn, hF, hA⟩ := h
  go_enter Try.func76, Try.ntmps76
  go_wp2
  go_loop [3, 7] (fun t i => ∃ k : Nat, k ≤ n ∧ i = .int .i64 k ∧ t = .int .u32 (leTo F k)) (fun _ i => n - (intOf i).toNat)
  case atStart => exact ⟨0, Nat.zero_le _, rfl, rfl⟩
  case round =>
    obtain ⟨k, hk, rfl, rfl⟩ := hrel
    have hx := leTo_lt (F := F) (n := k) fun i hi => hF i (by omega)
    by_cases hlt : k < n
    · obtain ⟨b, o, rfl, hc⟩ := hA (by omega)
      have hck := hc k hlt
      have hFk := hF k hlt
      go_wp2
      go_round
      case rel =>
        refine ⟨k + 1, by omega, by go_num, ?_⟩
        exact congrArg _ (or32 hx hFk (by omega))
      case measure => simp [intOf]; omega
    · go_wp2
      obtain rfl : k = n := by omega
      go_ret
      exact ⟨rfl, rfl⟩
end Go.Proofs.Ytmeijienfdefjaa
