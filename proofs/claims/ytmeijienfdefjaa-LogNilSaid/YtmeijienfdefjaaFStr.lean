/- Bytes as a string; Build and the document's Build in one form, whatever the arguments. -/
import Derived.Test.YtmeijienfdefjaaFRefBuild
import Derived.Test.YtmeijienfdefjaaFLawChecks
import Derived.Laws.BytesArg
namespace Go.Proofs.Ytmeijienfdefjaa
open Go.RowKit

/-- Build's error number, the length of what it makes, its bytes. -/
def bErr (size mark : Int) (n : Nat) : Int := if size < 64 ∨ 4096 < size then 3 else if mark < 1 ∨ 4611686018427387904 < mark then 2 else if size - 36 < n then 9 else 0
def bLen (size mark : Int) (n : Nat) : Nat := if bErr size mark n = 0 then size.toNat else 0
def bF (size mark : Int) (n : Nat) (F : Nat → Nat) : Nat → Nat := secF (size.toNat - 20) mark.toNat n F
theorem bErr_1 {size mark : Int} {n : Nat} (h : size < 64 ∨ 4096 < size) : bErr size mark n = 3 := if_pos h
theorem bErr_2 {size mark : Int} {n : Nat} (h : ¬ (size < 64 ∨ 4096 < size)) (h2 : mark < 1 ∨ 4611686018427387904 < mark) : bErr size mark n = 2 := by unfold bErr; rw [if_neg h, if_pos h2]
theorem bErr_3 {size mark : Int} {n : Nat} (h : ¬ (size < 64 ∨ 4096 < size)) (h2 : ¬ (mark < 1 ∨ 4611686018427387904 < mark)) (h3 : size - 36 < n) : bErr size mark n = 9 := by unfold bErr; rw [if_neg h, if_neg h2, if_pos h3]
theorem bErr_0 {size mark : Int} {n : Nat} (h : ¬ (size < 64 ∨ 4096 < size)) (h2 : ¬ (mark < 1 ∨ 4611686018427387904 < mark)) (h3 : ¬ size - 36 < n) : bErr size mark n = 0 := by unfold bErr; rw [if_neg h, if_neg h2, if_neg h3]

theorem build_all (size mark : Int) (n c : Nat) (A : Option Addr) (F : Nat → Nat) (w : World) (hb : Bytes w A n F) :
    Calls Try.prog 61 #[.int .i64 size, .int .i64 mark, .slice A n c] w fun e w' =>
      ∃ B d, e = .returned (.tuple #[.slice B (bLen size mark n) d, .int .i64 (bErr size mark n)]) ∧ Bytes w' B (bLen size mark n) (bF size mark n F) ∧ Below w.heap.size w w' := by
  unfold bLen
  by_cases h1 : size < 64 ∨ 4096 < size
  · rw [bErr_1 h1]
    exact (build_size size mark A n c w h1).mono fun e w' ⟨he, hw⟩ => ⟨none, 0, he, none_bytes _ _, hw ▸ Below.refl _ _⟩
  · by_cases h2 : mark < 1 ∨ 4611686018427387904 < mark
    · rw [bErr_2 h1 h2]
      exact (build_mark size mark A n c w (by omega) (by omega) h2).mono fun e w' ⟨he, hw⟩ => ⟨none, 0, he, none_bytes _ _, hw ▸ Below.refl _ _⟩
    · by_cases h3 : size - 36 < n
      · rw [bErr_3 h1 h2 h3]
        exact (build_long size mark A n c w (by omega) (by omega) (by omega) (by omega) h3 hb.1).mono fun e w' ⟨he, hw⟩ => ⟨none, 0, he, none_bytes _ _, hw ▸ Below.refl _ _⟩
      · rw [bErr_0 h1 h2 h3, if_pos rfl]
        obtain ⟨s, rfl⟩ := Int.eq_ofNat_of_zero_le (show 0 ≤ size by omega)
        obtain ⟨k, rfl⟩ := Int.eq_ofNat_of_zero_le (show 0 ≤ mark by omega)
        refine (build_ok s (s - 20) k n c A F w (by omega) (by omega) (by omega) (by omega) (by omega) (by omega) (by omega) hb).mono fun e w' ⟨he, hr, hl⟩ => ?_
        exact ⟨_, _, he, ((hr.bytes (o := 0) (m := s) (by omega)).congr fun i _ => by rw [Nat.zero_add]; rfl), hl⟩

theorem refBuild_all (size mark : Int) (n c : Nat) (A : Option Addr) (F : Nat → Nat) (w : World) (hb : Bytes w A n F) (hnil : A = none → c = 0) :
    Calls Try.prog 44 #[.int .i64 size, .int .i64 mark, .slice A n c] w fun e w' =>
      ∃ B d, e = .returned (.tuple #[.slice B (bLen size mark n) d, .int .i64 (bErr size mark n)]) ∧ Bytes w' B (bLen size mark n) (bF size mark n F) ∧ Below w.heap.size w w' := by
  unfold bLen
  by_cases h1 : size < 64 ∨ 4096 < size
  · rw [bErr_1 h1]
    exact (refBuild_size size mark A n c w h1).mono fun e w' ⟨he, hw⟩ => ⟨none, 0, he, none_bytes _ _, hw ▸ Below.refl _ _⟩
  · by_cases h2 : mark < 1 ∨ 4611686018427387904 < mark
    · rw [bErr_2 h1 h2]
      exact (refBuild_mark size mark A n c w (by omega) (by omega) h2).mono fun e w' ⟨he, hw⟩ => ⟨none, 0, he, none_bytes _ _, hw ▸ Below.refl _ _⟩
    · by_cases h3 : size - 36 < n
      · rw [bErr_3 h1 h2 h3]
        exact (refBuild_long size mark A n c w (by omega) (by omega) (by omega) (by omega) h3).mono fun e w' ⟨he, hw⟩ => ⟨none, 0, he, none_bytes _ _, hw ▸ Below.refl _ _⟩
      · rw [bErr_0 h1 h2 h3, if_pos rfl]
        obtain ⟨s, rfl⟩ := Int.eq_ofNat_of_zero_le (show 0 ≤ size by omega)
        obtain ⟨k, rfl⟩ := Int.eq_ofNat_of_zero_le (show 0 ≤ mark by omega)
        refine (refBuild_ok s (s - 20) k n c A F w (by omega) (by omega) (by omega) (by omega) (by omega) (by omega) (by omega) hb hnil).mono fun e w' ⟨B, d, he, hr, hl⟩ => ?_
        exact ⟨B, d, he, hr.bytes, hl⟩

end Go.Proofs.Ytmeijienfdefjaa
