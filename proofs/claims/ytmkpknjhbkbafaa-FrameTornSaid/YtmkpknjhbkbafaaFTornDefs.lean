/- What stands there behind each piece, and what was written. -/
import Derived.Test.YtmkpknjhbkbafaaFTornPlain
import Derived.Test.YtmkpknjhbkbafaaFTurned
namespace Go.Proofs.Ytmkpknjhbkbafaa
open Go.RowKit

theorem build_int (size m n c : Nat) (mark : Int) (A : Option Addr) (F : Nat → Nat) (w : World) (h1 : m + 20 ≤ size) (h2 : size ≤ m + 20) (h44 : 44 ≤ m) (hm : m ≤ 4076) (hk1 : 1 ≤ mark) (hk2 : mark ≤ 4611686018427387904) (hn : 16 + n ≤ m) (hb : Bytes w A n F) :
    Calls Try.prog 12 #[.int .i64 size, .int .i64 mark, .slice A n c] w fun e w' =>
      e = .returned (.tuple #[.slice (some ⟨w.heap.size, 0, none⟩) size size, .int .i64 0]) ∧ BRow w' w.heap.size size (secF m mark.toNat n F) ∧ Below w.heap.size w w' := by
  obtain ⟨k, rfl⟩ := Int.eq_ofNat_of_zero_le (show 0 ≤ mark by omega)
  exact build_ok size m k n c A F w h1 h2 h44 hm (by omega) (by omega) hn hb
theorem strinfo : (Try.prog.info? 9).map (fun i => (i.zero, i.size, i.bytes)) = some (some (.string ByteArray.empty), 1, 16) := by kernel_rfl

/-- What stands there, and what was written, behind k rounds. -/
def nowS (zero : Bool) (S : Nat → Nat → Nat) (cut : Nat → Nat) : Nat → Nat → Nat
  | 0 => zeroF
  | k + 1 => if k = 0 ∧ zero = true then zeroF else copyF (nowS zero S cut k) 0 (cut k) (S k)
def wholeS (zero : Bool) (S : Nat → Nat → Nat) (s : Nat) : Nat → List Value
  | 0 => []
  | k + 1 => if k = 0 ∧ zero = true then [] else wholeS zero S s k ++ [.string (strF (S k) s)]
theorem nowS_skip (zero : Bool) (S : Nat → Nat → Nat) (cut : Nat → Nat) (h : zero = true) : nowS zero S cut 1 = nowS zero S cut 0 := if_pos ⟨rfl, h⟩
theorem nowS_step {zero : Bool} {S : Nat → Nat → Nat} {cut : Nat → Nat} {k : Nat} (h : ¬ (k = 0 ∧ zero = true)) : nowS zero S cut (k + 1) = copyF (nowS zero S cut k) 0 (cut k) (S k) := if_neg h
theorem wholeS_skip (zero : Bool) (S : Nat → Nat → Nat) (s : Nat) (h : zero = true) : wholeS zero S s 1 = wholeS zero S s 0 := if_pos ⟨rfl, h⟩
theorem wholeS_step {zero : Bool} {S : Nat → Nat → Nat} {s k : Nat} (h : ¬ (k = 0 ∧ zero = true)) : wholeS zero S s (k + 1) = wholeS zero S s k ++ [.string (strF (S k) s)] := if_neg h

theorem wholeS_len (zero : Bool) (S : Nat → Nat → Nat) (s : Nat) : ∀ k, (wholeS zero S s k).length ≤ k
  | 0 => Nat.le_refl _
  | k + 1 => by
    have := wholeS_len zero S s k
    unfold wholeS
    split
    · simp
    · rw [List.length_append]; simp; omega

theorem wholeS_mem (zero : Bool) (S : Nat → Nat → Nat) (s : Nat) (v : Value) : ∀ k, v ∈ wholeS zero S s k ↔ ∃ r, r < k ∧ ¬ (r = 0 ∧ zero = true) ∧ v = .string (strF (S r) s)
  | 0 => by
    unfold wholeS
    constructor
    · intro h; cases h
    · rintro ⟨r, h, _⟩; omega
  | k + 1 => by
    have ih := wholeS_mem zero S s v k
    by_cases h : k = 0 ∧ zero = true
    · unfold wholeS
      rw [if_pos h]
      constructor
      · intro q; cases q
      · rintro ⟨r, h1, h2, _⟩
        exact absurd ⟨by omega, h.2⟩ h2
    · rw [wholeS_step h, List.mem_append, ih, List.mem_singleton]
      constructor
      · rintro (⟨r, h1, h2, h3⟩ | h3)
        · exact ⟨r, by omega, h2, h3⟩
        · exact ⟨k, by omega, h, h3⟩
      · rintro ⟨r, h1, h2, h3⟩
        rcases Nat.lt_or_ge r k with q | q
        · exact .inl ⟨r, q, h2, h3⟩
        · obtain rfl : r = k := by omega
          exact .inr h3

theorem headF_lt (v i : Nat) : headF v i < 256 := by
  have := leF_lt v i
  unfold headF
  split <;> omega
theorem secF_lt {m v n : Nat} {G : Nat → Nat} (hv : v < 18446744073709551616) (hG : ∀ j, j < n → G j < 256) (i : Nat) : secF m v n G i < 256 := by
  unfold secF
  rw [pairF_at hv]
  split
  · exact headF_lt _ _
  · unfold putF
    split
    · exact Nat.mod_lt _ (by omega)
    · unfold bodyF copyF
      split
      · exact hG _ (by omega)
      · rw [pairF_at hv]
        split
        · exact headF_lt _ _
        · unfold zeroF; omega

/-- What stands there at the end is a sector just where it is one of those that were written. -/
theorem torn_end {s m : Nat} {zero : Bool} {mk : Nat → Int} {nn : Nat → Nat} {F : Nat → Nat → Nat} {cut : Nat → Nat} (h1 : m + 20 ≤ s) (h2 : s ≤ m + 20) (hm : 44 ≤ m) (hc0 : cut 0 = s)
    (hv : ∀ j, j < 3 → ¬ (j = 0 ∧ zero = true) → 1 ≤ mk j ∧ mk j ≤ 4611686018427387904) (n01 : mk 0 ≠ mk 1) (n02 : mk 0 ≠ mk 2) (n12 : mk 1 ≠ mk 2)
    (hT : ∀ i, i < s → nowS zero (fun k => secF m (mk k).toNat (nn k) (F k)) cut 3 i < 256)
    (hS : ∀ r, r < 3 → ¬ (r = 0 ∧ zero = true) → ∀ i, i < s → secF m (mk r).toNat (nn r) (F r) i < 256) :
    okP (nowS zero (fun k => secF m (mk k).toNat (nn k) (F k)) cut 3) m ↔ ∃ r, r < 3 ∧ ¬ (r = 0 ∧ zero = true) ∧ ∀ i, i < s → nowS zero (fun k => secF m (mk k).toNat (nn k) (F k)) cut 3 i = secF m (mk r).toNat (nn r) (F r) i := by
  constructor
  · intro hok
    have e : nowS zero (fun k => secF m (mk k).toNat (nn k) (F k)) cut 3 = tornF (nowS zero (fun k => secF m (mk k).toNat (nn k) (F k)) cut 1) (secF m (mk 1).toNat (nn 1) (F 1)) (secF m (mk 2).toNat (nn 2) (F 2)) (cut 1) (cut 2) := by
      rw [nowS_step (by omega), nowS_step (by omega)]
      rfl
    rw [e] at hok hT ⊢
    have v1 := hv 1 (by omega) (by omega)
    have v2 := hv 2 (by omega) (by omega)
    have b0 : zero = false → ∀ i, i < s → nowS zero (fun k => secF m (mk k).toNat (nn k) (F k)) cut 1 i = secF m (mk 0).toNat (nn 0) (F 0) i := fun hz i hi => by
      rw [nowS_step (by rw [hz]; simp), copyF_in (by omega) (by rw [hc0]; omega), Nat.sub_zero]
    have m0 : zero = false → Marked (nowS zero (fun k => secF m (mk k).toNat (nn k) (F k)) cut 1) m (mk 0).toNat := fun hz => by
      have v0 := hv 0 (by omega) (by rw [hz]; simp)
      have := sec_marked (m := m) (v := (mk 0).toNat) (n := nn 0) (G := F 0) (by omega) (by omega)
      exact ⟨fun i hi => (b0 hz i (by omega)).trans (this.1 i hi), fun i hi => (b0 hz _ (by omega)).trans (this.2 i hi)⟩
    have z0 : zero = true → ∀ i, nowS zero (fun k => secF m (mk k).toNat (nn k) (F k)) cut 1 i = 0 := fun hz i => by
      rw [nowS_skip _ _ _ hz]
      rfl
    have w0 : zero = false → (mk 0).toNat ≤ 4611686018427387904 := fun hz => by
      have v0 := hv 0 (by omega) (by rw [hz]; simp)
      omega
    rcases torn_one (zero := zero) (M0 := if zero then 0 else (mk 0).toNat) hm (fun hz => by rw [if_neg (show ¬ zero = true by rw [hz]; simp)]; exact m0 hz) z0 (sec_marked (by omega) (by omega)) (sec_marked (by omega) (by omega))
      (by cases zero with
        | true => simp
        | false => exact w0 rfl) (by omega) (by omega)
      (fun hz => by have v0 := hv 0 (by omega) (by rw [hz]; simp); rw [hz]; simp; omega)
      (fun hz => by have v0 := hv 0 (by omega) (by rw [hz]; simp); rw [hz]; simp; omega) (by omega) (fun i hi => hT i (by omega)) hok with h | h | ⟨hz, h⟩
    · exact ⟨2, by omega, by omega, fun i hi => h i (by omega)⟩
    · exact ⟨1, by omega, by omega, fun i hi => h i (by omega)⟩
    · exact ⟨0, by omega, by rw [hz]; simp, fun i hi => (h i (by omega)).trans (b0 hz i hi)⟩
  · rintro ⟨r, hr, hz, h⟩
    have hvr := hv r hr hz
    exact okP_congr hm (fun i hi => (h i (by omega)).symm) (sec_ok hm (by omega) (by omega) fun i hi => hS r hr hz i (by omega))
end Go.Proofs.Ytmkpknjhbkbafaa
