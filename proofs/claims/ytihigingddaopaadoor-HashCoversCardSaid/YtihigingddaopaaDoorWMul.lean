/- wide.Mul. -/
import Derived.Test.YtihigingddaopaaDoorWLeaf
import Derived.Test.YtihigingddaopaaDoorShelf
namespace Go.Proofs.YtihigingddaopaaDoor
open Go.RowKit
set_option linter.unusedVariables false

theorem lo_pos {a : Int} (h : In64 a) (h0 : ¬ a < 0) : loW a = a := by unfold In64 at h; unfold loW; omega
theorem lo_neg {a : Int} (h : In64 a) (h0 : a < 0) : loW a = a + 18446744073709551616 := by unfold In64 at h; unfold loW; omega
def mulH (a b : Int) : Int := loW a * loW b / 18446744073709551616
theorem mul_pp (a b : Int) (ha : In64 a) (hb : In64 b) (h1 : ¬ a < 0) (h2 : ¬ b < 0) : wrap64 (mulH a b) = hiW (a * b) := by
  rw [wrap64_eq]; unfold mulH hiW; rw [lo_pos ha h1, lo_pos hb h2]
theorem mul_np (a b : Int) (ha : In64 a) (hb : In64 b) (h1 : a < 0) (h2 : ¬ b < 0) : wrap64 (IntKind.u64.wrap (mulH a b - loW b)) = hiW (a * b) := by
  rw [wrap64_eq, IntKind.wrap_u64]; unfold mulH hiW; rw [lo_neg ha h1, lo_pos hb h2, Int.add_mul]; generalize a * b = m; omega
theorem mul_pn (a b : Int) (ha : In64 a) (hb : In64 b) (h1 : ¬ a < 0) (h2 : b < 0) : wrap64 (IntKind.u64.wrap (mulH a b - loW a)) = hiW (a * b) := by
  rw [wrap64_eq, IntKind.wrap_u64]; unfold mulH hiW; rw [lo_pos ha h1, lo_neg hb h2, Int.mul_add]; generalize a * b = m; omega
theorem mul_nn (a b : Int) (ha : In64 a) (hb : In64 b) (h1 : a < 0) (h2 : b < 0) : wrap64 (IntKind.u64.wrap (IntKind.u64.wrap (mulH a b - loW b) - loW a)) = hiW (a * b) := by
  rw [wrap64_eq, IntKind.wrap_u64, IntKind.wrap_u64]; unfold mulH hiW; rw [lo_neg ha h1, lo_neg hb h2, Int.add_mul, Int.mul_add]; generalize a * b = m; omega
theorem mulH_bd (a b : Int) : 0 ≤ mulH a b ∧ mulH a b < 18446744073709551616 := by
  have h1 := loW_bd a
  have h2 := loW_bd b
  unfold mulH
  have h3 : 0 ≤ loW a * loW b := Int.mul_nonneg h1.1 h2.1
  have h4 : loW a * loW b ≤ 18446744073709551615 * 18446744073709551615 := Int.mul_le_mul (by omega) (by omega) h2.1 (by omega)
  omega
end Go.Proofs.YtihigingddaopaaDoor
