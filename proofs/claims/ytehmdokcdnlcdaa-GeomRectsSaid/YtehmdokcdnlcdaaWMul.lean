/- wide.Mul. -/
import Derived.Test.YtehmdokcdnlcdaaWLeaf
import Derived.Test.YtehmdokcdnlcdaaShelf
namespace Go.Proofs.Ytehmdokcdnlcdaa
open Go.RowKit
set_option linter.unusedVariables false

theorem lo_pos {a : Int} (h : In64 a) (h0 : ¬ a < 0) : loW a = a := by unfold In64 at h; unfold loW; omega
theorem lo_neg {a : Int} (h : In64 a) (h0 : a < 0) : loW a = a + 18446744073709551616 := by unfold In64 at h; unfold loW; omega
def mulH (a b : Int) : Int := loW a * loW b / 18446744073709551616
theorem mul_pp (a b : Int) (ha : In64 a) (hb : In64 b) (h1 : ¬ a < 0) (h2 : ¬ b < 0) : wrap64 (mulH a b) = hiW (a * b) := by
  rw [wrap64_eq]; unfold mulH hiW; rw [lo_pos ha h1, lo_pos hb h2]
theorem mul_np (a b : Int) (ha : In64 a) (hb : In64 b) (h1 : a < 0) (h2 : ¬ b < 0) : wrap64 (IntKind.u64.wrap (mulH a b - loW b)) = hiW (a * b) := by
  rw [wrap64_eq, IntKind.wrap_u64]; unfold mulH hiW; rw [lo_neg ha h1, lo_pos hb h2, Int.add_mul]; generalize a * b = m; omega
theorem mul_pn (a b : Int) (ha : In64 a) (hb : In64 b) (h1 : ¬ a < 0) (h2 : b < 0) : wrap64 (IntKind.u64.wrap (mulH a b - loW a)) = hiW (a * b) := by
  rw [wrap64_eq, IntKind.wrap_u64]; unfold mulH hiW; rw [lo_pos ha h1, lo_neg hb h2, Int.mul_add]; generalize a * b = m; omega
theorem mul_nn (a b : Int) (ha : In64 a) (hb : In64 b) (h1 : a < 0) (h2 : b < 0) : wrap64 (IntKind.u64.wrap (IntKind.u64.wrap (mulH a b - loW b) - loW a)) = hiW (a * b) := by
  rw [wrap64_eq, IntKind.wrap_u64, IntKind.wrap_u64]; unfold mulH hiW; rw [lo_neg ha h1, lo_neg hb h2, Int.add_mul, Int.mul_add]; generalize a * b = m; omega
theorem mulH_bd (a b : Int) : 0 ≤ mulH a b ∧ mulH a b < 18446744073709551616 := by
  have h1 := loW_bd a
  have h2 := loW_bd b
  unfold mulH
  have h3 : 0 ≤ loW a * loW b := Int.mul_nonneg h1.1 h2.1
  have h4 : loW a * loW b ≤ 18446744073709551615 * 18446744073709551615 := Int.mul_le_mul (by omega) (by omega) h2.1 (by omega)
  omega
theorem mul64_any (a b : Int) (w : World) : Calls Try.prog 49 #[.int .u64 (loW a), .int .u64 (loW b)] w fun e w' => e = .returned (.tuple #[.int .u64 (mulH a b), .int .u64 (loW (a * b))]) ∧ w = w' := by
  have h1 := loW_bd a
  have h2 := loW_bd b
  obtain ⟨X, hX⟩ := Int.eq_ofNat_of_zero_le h1.1
  obtain ⟨Y, hY⟩ := Int.eq_ofNat_of_zero_le h2.1
  rw [show mulH a b = ((X * Y / 18446744073709551616 : Nat) : Int) by unfold mulH; rw [hX, hY]; simp, show loW (a * b) = ((X * Y % 18446744073709551616 : Nat) : Int) by rw [← mul_lo, hX, hY]; simp, hX, hY]
  refine (Try.bits_Mul64 X Y (by omega) (by omega) w).mono ?_
  rintro e w' ⟨rfl, rfl⟩
  exact ⟨rfl, rfl⟩
set_option maxRecDepth 100000 in
theorem mul_any (a b : Int) (ha : In64 a) (hb : In64 b) (w : World) : Calls Try.prog 41 #[.int .i64 a, .int .i64 b] w fun e w' => e = .returned (.agg #[.int .i64 (hiW (a * b)), .int .u64 (loW (a * b))]) ∧ Below w.heap.size w w' := by
  have ea := of_lo a
  have eb := of_lo b
  have bh := mulH_bd a b
  have bl := loW_bd (a * b)
  have ba := loW_bd a
  have bb := loW_bd b
  by_cases h1 : a < 0
  · by_cases h2 : b < 0
    · have E := Lib.hid (mul_nn a b ha hb h1 h2)
      clear ha hb
      go_enter Try.func41, Try.ntmps41
      go_wp2_with (go_at_call 49; refine (mul64_any a b _).mono ?_; rintro e w' ⟨rfl, rfl⟩)
      exact bodyPost_ret (v := .agg #[.int .i64 (wrap64 (IntKind.u64.wrap (IntKind.u64.wrap (mulH a b - loW b) - loW a))), .int .u64 (loW (a * b))]) (by simp [results, Try.results41, go_sem]) rfl ⟨ret_w E.out rfl, (Below.refl _ _).alloc (Nat.le_refl _) _⟩
    · have E := Lib.hid (mul_np a b ha hb h1 h2)
      clear ha hb
      go_enter Try.func41, Try.ntmps41
      go_wp2_with (go_at_call 49; refine (mul64_any a b _).mono ?_; rintro e w' ⟨rfl, rfl⟩)
      exact bodyPost_ret (v := .agg #[.int .i64 (wrap64 (IntKind.u64.wrap (mulH a b - loW b))), .int .u64 (loW (a * b))]) (by simp [results, Try.results41, go_sem]) rfl ⟨ret_w E.out rfl, (Below.refl _ _).alloc (Nat.le_refl _) _⟩
  · by_cases h2 : b < 0
    · have E := Lib.hid (mul_pn a b ha hb h1 h2)
      clear ha hb
      go_enter Try.func41, Try.ntmps41
      go_wp2_with (go_at_call 49; refine (mul64_any a b _).mono ?_; rintro e w' ⟨rfl, rfl⟩)
      exact bodyPost_ret (v := .agg #[.int .i64 (wrap64 (IntKind.u64.wrap (mulH a b - loW a))), .int .u64 (loW (a * b))]) (by simp [results, Try.results41, go_sem]) rfl ⟨ret_w E.out rfl, (Below.refl _ _).alloc (Nat.le_refl _) _⟩
    · have E := Lib.hid (mul_pp a b ha hb h1 h2)
      clear ha hb
      go_enter Try.func41, Try.ntmps41
      go_wp2_with (go_at_call 49; refine (mul64_any a b _).mono ?_; rintro e w' ⟨rfl, rfl⟩)
      go_goals
      exact bodyPost_ret (v := .agg #[.int .i64 (wrap64 (mulH a b)), .int .u64 (loW (a * b))]) (by simp [results, Try.results41, go_sem]) rfl ⟨ret_w E.out rfl, (Below.refl _ _).alloc (Nat.le_refl _) _⟩
end Go.Proofs.Ytehmdokcdnlcdaa
