/- the document's get: the number at a place of bytes. -/
import Derived.Test.YthpfaaindkkpcaaBBack
namespace Go.Proofs.Ythpfaaindkkpcaa
open Go.RowKit Go.Maps
set_option linter.unusedVariables false
set_option linter.unusedSimpArgs false

/-- The number that goes on at a place, of at most k more bytes, and where it ends. -/
def gI (F : Nat → Nat) (m : Nat) : Nat → Nat → Nat → Option (Nat × Nat)
  | 0, _, _ => none
  | k + 1, acc, a => if a < m then (if F a < 128 then some (128 * acc + F a % 128, a + 1) else gI F m k (128 * acc + F a % 128) (a + 1)) else none
theorem gI_end {F : Nat → Nat} {m k acc a : Nat} (h : ¬ a < m) : gI F m k acc a = none := by
  cases k with
  | zero => rfl
  | succ k => rw [gI, if_neg h]
theorem gI_yes {F : Nat → Nat} {m k acc a : Nat} (h : a < m) (h1 : F a < 128) : gI F m (k + 1) acc a = some (128 * acc + F a % 128, a + 1) := by rw [gI, if_pos h, if_pos h1]
theorem gI_on {F : Nat → Nat} {m k acc a : Nat} (h : a < m) (h1 : ¬ F a < 128) : gI F m (k + 1) acc a = gI F m k (128 * acc + F a % 128) (a + 1) := by rw [gI, if_pos h, if_neg h1]
theorem pw128 {acc k : Nat} (h : acc < 128 ^ k) (hk : k ≤ 7) : acc < 562949953421312 := Nat.lt_of_lt_of_le h (Nat.le_trans (Nat.pow_le_pow_right (by omega) hk) (by decide))
theorem pw128s {acc k x : Nat} (h : acc < 128 ^ k) : 128 * acc + x % 128 < 128 ^ (k + 1) := by rw [Nat.pow_succ]; omega
def gV : Option (Nat × Nat) → Int × Int
  | none => (0, -1)
  | some (n, a) => ((n : Nat), (a : Nat))
set_option maxRecDepth 100000 in
set_option maxHeartbeats 8000000 in
theorem get_any (A : Option Addr) (m d : Nat) (F : Nat → Nat) (a : Nat) (w : World) (hB : Bytes w A m F) (hm : m ≤ 1000000) (ha : a ≤ m) :
    Calls Try.prog 14 #[.slice A m d, .int .i64 (a : Nat)] w fun e w' => e = .returned (.tuple #[.int .i64 (gV (gI F m 8 0 a)).1, .int .i64 (gV (gI F m 8 0 a)).2]) ∧ Below w.heap.size w w' := by
  have HB := Lib.hid hB
  clear hB
  obtain ⟨g, hg⟩ : ∃ g, g = gI F m 8 0 a := ⟨_, rfl⟩
  rw [← hg]
  have HG := Lib.hid hg
  clear hg
  go_enter Try.func14, Try.ntmps14
  go_wp2_with fail
  go_loopw [6, 7] (fun n i wr => ∃ k acc : Nat, k ≤ 8 ∧ i = .int .i64 k ∧ n = .int .i64 acc ∧ g = gI F m (8 - k) acc (a + k) ∧ a + k ≤ m ∧ acc < 128 ^ k ∧ Below w.heap.size w wr) (fun _ i _ => 8 - (intOf i).toNat)
  case atStart => exact ⟨0, 0, by omega, rfl, rfl, HG.out, by omega, by decide, Below.refl _ _⟩
  case round =>
    obtain ⟨k, acc, hk, rfl, rfl, hgk, hak, hacc, hnx⟩ := hrel
    have HX := Lib.hid hnx
    have HK := Lib.hid hgk
    have HC := Lib.hid hacc
    clear hgk hacc hnx
    by_cases hk8 : k < 8
    · have hb := pw128 HC.out (show k ≤ 7 by omega)
      by_cases hlt : a + k < m
      · obtain ⟨b, o, hA, hc⟩ := HB.out.2.2 (by omega)
        subst hA
        have q0 := kcell HX.out (cell_in (hc 0 (by omega))) (hc (a + k) hlt)
        have hx := HB.out.2.1 (a + k) hlt
        have HGy : Hid (F (a + k) < 128 → g = some (128 * acc + F (a + k) % 128, a + k + 1)) := Lib.hid fun q => by
          have h := HK.out
          rw [show 8 - k = (8 - (k + 1)) + 1 by omega, gI_yes hlt q] at h
          exact h
        have HGo : Hid (¬ F (a + k) < 128 → g = gI F m (8 - (k + 1)) (128 * acc + F (a + k) % 128) (a + (k + 1))) := Lib.hid fun q => by
          have h := HK.out
          rw [show 8 - k = (8 - (k + 1)) + 1 by omega, gI_on hlt q] at h
          exact h
        have HCs := Lib.hid (pw128s (x := F (a + k)) HC.out)
        clear hc
        generalize F (a + k) = x at *
        obtain ⟨y, hy⟩ : ∃ y, y = x % 128 := ⟨_, rfl⟩
        have hx2 : (x : Int).tmod 128 = (y : Int) := by rw [Int.tmod_eq_emod_of_nonneg (by omega), hy]; omega
        have hy8 : y < 128 := by omega
        rw [← hy] at HGy HGo HCs
        clear hy
        have hq1 : (a : Int) + k < m := by omega
        have hq2 : 0 ≤ (a : Int) + k := by omega
        by_cases h1 : x < 128
        · have HG2 := Lib.hid (HGy.out h1)
          clear HGy HGo
          go_wp2_with fail
          go_ret2
          refine ⟨?_, HX.out⟩
          rw [HG2.out]
          trace_state
          rfl
        · have HG2 := Lib.hid (HGo.out h1)
          clear HGy HGo
          go_wp2_with fail
          exact ⟨⟨k + 1, 128 * acc + y, by omega, by go_num, by go_num, HG2.out, by omega, HCs.out, HX.out⟩, by simp [intOf]; omega⟩
      · have HG2 : Hid (g = none) := Lib.hid (HK.out.trans (gI_end hlt))
        go_wp2_with fail
        go_ret2
        exact ⟨by rw [HG2.out]; rfl, HX.out⟩
    · obtain rfl : k = 8 := by omega
      have HG2 : Hid (g = none) := Lib.hid HK.out
      go_wp2_with fail
      go_ret2
      exact ⟨by rw [HG2.out]; rfl, HX.out⟩
end Go.Proofs.Ythpfaaindkkpcaa
