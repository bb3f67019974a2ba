/- wide's small calls: Of, Plus, Less, Turned. -/
import Derived.Test.YtehmdokcdnlcdaaProg
import Derived.Test.YtehmdokcdnlcdaaWPlain
import Derived.WalkKit
import Derived.WalkSpells
import Derived.WalkLawsBesides
import Derived.Shelf.Spec.BitsCarry
import Derived.Laws.Externs
import Derived.Outline
import Derived.Below
namespace Go.Proofs.Ytehmdokcdnlcdaa
open Go.RowKit
set_option linter.unusedVariables false

theorem add_run (x y : Int) (hx : 0 ≤ x) (hy : 0 ≤ y) (w : World) : (callFunc 55 #[.int .u64 x, .int .u64 y, .int .u64 0]).run Try.prog w = .ok (.value (.tuple #[.int .u64 ((x + y) % 18446744073709551616), .int .u64 ((x + y) / 18446744073709551616)])) w := by
  rw [run_callFunc_extern Try.func55 (by kernel_rfl) (by kernel_rfl) (by kernel_rfl) (e := add64Entry) (by kernel_rfl), run_add64 x y 0 hx hy (by omega) (by omega)]
  simp only [Result.andThen, Int.add_zero]
theorem sub_nat (X Y : Nat) (hy : Y < 18446744073709551616) : ((if X < Y + 0 then 1 else 0 : Nat) : Int) = (if (X : Int) < Y then 1 else 0) := by
  by_cases h : X < Y
  · rw [if_pos (by omega), if_pos (by omega)]; rfl
  · rw [if_neg (by omega), if_neg (by omega)]; rfl
theorem sub_run (x y : Int) (hx : 0 ≤ x) (hy : 0 ≤ y) (hy2 : y < 18446744073709551616) (w : World) : (callFunc 50 #[.int .u64 x, .int .u64 y, .int .u64 0]).run Try.prog w = .ok (.value (.tuple #[.int .u64 ((x - y) % 18446744073709551616), .int .u64 (if x < y then 1 else 0)])) w := by
  obtain ⟨X, rfl⟩ := Int.eq_ofNat_of_zero_le hx
  obtain ⟨Y, rfl⟩ := Int.eq_ofNat_of_zero_le hy
  have h := run_sub64 (P := Try.prog) X Y 0 (by omega) w
  rw [sub_nat X Y (by omega), show ((((X + 18446744073709551616 - Y - 0) % 18446744073709551616 : Nat) : Int)) = ((X : Int) - Y) % 18446744073709551616 by omega] at h
  rw [run_callFunc_extern Try.func50 (by kernel_rfl) (by kernel_rfl) (by kernel_rfl) (e := sub64Entry) (by kernel_rfl)]
  rw [show (.int .u64 0 : Value) = .int .u64 ((0 : Nat) : Int) from rfl, h]
  rfl

theorem bcell {W w1 : World} (hb : Below W.heap.size W w1) : (∀ b o, b < W.heap.size → w1.cell? ⟨b, o, none⟩ = W.cell? ⟨b, o, none⟩) ∧ (∀ b o, b < W.heap.size → w1.frozen? ⟨b, o, none⟩ = W.frozen? ⟨b, o, none⟩) :=
  ⟨fun b o h => hb.cell (p := ⟨b, o, none⟩) h, fun b o h => hb.frozen (p := ⟨b, o, none⟩) h⟩
theorem of_lo (n : Int) : IntKind.u64.wrap n = loW n := IntKind.wrap_u64 n
theorem of_hi {n : Int} (hn : In64 n) : n / 9223372036854775808 = hiW n := by unfold In64 at hn; unfold hiW; omega
/-- A struct of two cells handed back. -/
theorem ret_w {a b c d : Int} (h1 : a = c) (h2 : b = d) : Ending.returned (.agg #[.int .i64 a, .int .u64 b]) = .returned (.agg #[.int .i64 c, .int .u64 d]) := by rw [h1, h2]
set_option maxRecDepth 100000 in
theorem plus_any (x y : Int) (w : World) : Calls Try.prog 48 #[.agg #[.int .i64 (hiW x), .int .u64 (loW x)], .agg #[.int .i64 (hiW y), .int .u64 (loW y)]] w fun e w' => e = .returned (.agg #[.int .i64 (hiW (x + y)), .int .u64 (loW (x + y))]) ∧ Below w.heap.size w w' := by
  have hx := loW_bd x
  have hy := loW_bd y
  have kx := hiW_bd x
  have ky := hiW_bd y
  obtain ⟨c, hc⟩ : ∃ c, c = (loW x + loW y) / 18446744073709551616 := ⟨_, rfl⟩
  have hr := fun W => add_run (loW x) (loW y) hx.1 hy.1 W
  rw [← hc, plus_lo] at hr
  have c0 : 0 ≤ c := by omega
  have c1 : c ≤ 1 := by omega
  have e1 := Lib.hid (plus_hi' x y c hc)
  have hz := loW_bd (x + y)
  clear hc
  go_enter Try.func48, Try.ntmps48
  go_wp2
  exact bodyPost_ret (v := .agg #[.int .i64 (wrap64 (wrap64 (hiW x + hiW y) + c)), .int .u64 (loW (x + y))]) (by simp [results, Try.results48, go_sem]) rfl ⟨ret_w e1.out rfl, (((Below.refl _ _).alloc (Nat.le_refl _) _).alloc (by simp) _).alloc (by simp; omega) _⟩
set_option maxRecDepth 100000 in
theorem less_any (x y : Int) (w : World) : Calls Try.prog 42 #[.agg #[.int .i64 (hiW x), .int .u64 (loW x)], .agg #[.int .i64 (hiW y), .int .u64 (loW y)]] w fun e w' => e = .returned (.agg #[.int .i64 (hiW (x - y)), .int .u64 (loW (x - y))]) ∧ Below w.heap.size w w' := by
  have hx := loW_bd x
  have hy := loW_bd y
  have kx := hiW_bd x
  have ky := hiW_bd y
  obtain ⟨c, hc⟩ : ∃ c : Int, c = if loW x < loW y then 1 else 0 := ⟨_, rfl⟩
  have hr := fun W => sub_run (loW x) (loW y) hx.1 hy.1 hy.2 W
  rw [← hc, less_lo] at hr
  have c0 : 0 ≤ c := by rw [hc]; split <;> omega
  have c1 : c ≤ 1 := by rw [hc]; split <;> omega
  have e1 := Lib.hid (less_hi' x y c hc)
  have hz := loW_bd (x - y)
  clear hc
  go_enter Try.func42, Try.ntmps42
  go_wp2
  exact bodyPost_ret (v := .agg #[.int .i64 (wrap64 (wrap64 (hiW x - hiW y) - c)), .int .u64 (loW (x - y))]) (by simp [results, Try.results42, go_sem]) rfl ⟨ret_w e1.out rfl, (((Below.refl _ _).alloc (Nat.le_refl _) _).alloc (by simp) _).alloc (by simp; omega) _⟩
end Go.Proofs.Ytehmdokcdnlcdaa
