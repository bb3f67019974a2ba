/- hash's blocks of cells: how many, those above. -/
import Derived.Test.YtihigingddaopaaDoorHCov
import Derived.Test.YtihigingddaopaaDoorHCode
namespace Go.Proofs.YtihigingddaopaaDoor
open Go.RowKit
set_option linter.unusedVariables false
set_option linter.unusedSimpArgs false

/-- A block's value: its depth, its sides. -/
def bkA (k : Nat) (B : Bk) : Array Value := #[.int .i64 (32 - (k : Int)), .int .u32 (B.a : Nat), .int .u32 (B.c : Nat), .int .u32 (B.b : Nat), .int .u32 (B.d : Nat)]
def Bk.fit (B : Bk) : Prop := B.a ≤ B.b ∧ B.b ≤ 3600000000 ∧ B.c ≤ B.d ∧ B.d ≤ 1800000000
theorem Bk.fit_ok {B : Bk} (h : B.fit) : B.ok := ⟨h.1, by have := h.2.1; omega, h.2.2.1, by have := h.2.2.2; omega⟩
theorem Bk.up_fit {B : Bk} (h : B.fit) (k : Nat) : (B.up k).fit :=
  ⟨Nat.div_le_div_right h.1, Nat.le_trans (Nat.div_le_self _ _) h.2.1, Nat.div_le_div_right h.2.2.1, Nat.le_trans (Nat.div_le_self _ _) h.2.2.2⟩
theorem cnt_lt {B : Bk} (h : B.fit) : B.cnt ≤ 6480000005400000001 := by
  obtain ⟨h1, h2, h3, h4⟩ := h
  unfold Bk.cnt
  exact Nat.le_trans (Nat.mul_le_mul (show B.b - B.a + 1 ≤ 3600000001 by omega) (show B.d - B.c + 1 ≤ 1800000001 by omega)) (by decide)
theorem u32_sub {a b : Nat} (h : a ≤ b) (hb : b < 4294967296) : IntKind.u32.wrap ((b : Int) - (a : Int)) = ((b - a : Nat) : Int) := by
  have : (b : Int) - (a : Int) = ((b - a : Nat) : Int) := by omega
  rw [this]
  simp [IntKind.wrap, IntKind.bits, IntKind.signed]; omega
theorem u32_inc {a : Nat} (h : a < 4294967295) : IntKind.u32.wrap ((a : Int) + 1) = ((a + 1 : Nat) : Int) := by
  simp [IntKind.wrap, IntKind.bits, IntKind.signed]; omega
set_option maxHeartbeats 4000000 in
theorem count_any (k : Nat) (B : Bk) (hB : B.fit) (w : World) : Calls Tryd.prog 8 #[.agg (bkA k B)] w fun e w' => e = .returned (.int .u64 (B.cnt : Nat)) ∧ Below w.heap.size w w' := by
  obtain ⟨a, c, b, d⟩ := B
  have hc := cnt_lt hB
  obtain ⟨h1, h2, h3, h4⟩ := hB
  unfold Bk.cnt at hc ⊢
  dsimp only at h1 h2 h3 h4 hc ⊢
  unfold bkA
  dsimp only
  have s1 := u32_sub h1 (by omega)
  have s2 := u32_sub h3 (by omega)
  have s3 := u32_inc (a := b - a) (by omega)
  have s4 := u32_inc (a := d - c) (by omega)
  obtain ⟨p, hp⟩ : ∃ p, p = b - a := ⟨_, rfl⟩
  obtain ⟨q, hq⟩ : ∃ q, q = d - c := ⟨_, rfl⟩
  rw [← hp] at s1 s3 hc ⊢
  rw [← hq] at s2 s4 hc ⊢
  have hpl : p < 4294967295 := by omega
  have hql : q < 4294967295 := by omega
  have HM := Lib.hid (show IntKind.u64.wrap (((p + 1 : Nat) : Int) * ((q + 1 : Nat) : Int)) = (((p + 1) * (q + 1) : Nat) : Int) by
    rw [← Int.natCast_mul, wrap64_nat (by omega)])
  clear hp hq hc
  go_enter Tryd.func8, Tryd.ntmps8
  go_wp2
  go_ret
  exact ⟨by rw [← HM.out]; rfl, (Below.refl _ _).alloc (Nat.le_refl _) _⟩
set_option maxHeartbeats 4000000 in
theorem above_any (k : Nat) (hk : k < 32) (B : Bk) (hB : B.fit) (w : World) : Calls Tryd.prog 9 #[.agg (bkA k B)] w fun e w' => e = .returned (.agg (bkA (k + 1) ⟨B.a / 2, B.c / 2, B.b / 2, B.d / 2⟩)) ∧ Below w.heap.size w w' := by
  obtain ⟨a, c, b, d⟩ := B
  obtain ⟨h1, h2, h3, h4⟩ := hB
  dsimp only at h1 h2 h3 h4 ⊢
  unfold bkA
  dsimp only
  go_enter Tryd.func9, Tryd.ntmps9
  go_wp2
  refine bodyPost_ret (v := .agg #[.int .i64 (32 - (k : Int) - 1), .int .u32 ((a : Int) / 2), .int .u32 ((c : Int) / 2), .int .u32 ((b : Int) / 2), .int .u32 ((d : Int) / 2)]) (by simp [results, Tryd.results9, go_sem]) rfl ⟨?_, ?_⟩
  · rw [show (32 : Int) - ((k + 1 : Nat) : Int) = 32 - (k : Int) - 1 by omega, show ((a / 2 : Nat) : Int) = (a : Int) / 2 by omega, show ((b / 2 : Nat) : Int) = (b : Int) / 2 by omega, show ((c / 2 : Nat) : Int) = (c : Int) / 2 by omega, show ((d / 2 : Nat) : Int) = (d : Int) / 2 by omega]
  · exact ((Below.refl _ _).alloc (Nat.le_refl _) _).alloc (by simp) _
theorem cells_any (k : Nat) (B : Bk) (w : World) : Calls Tryd.prog 10 #[.agg (bkA k B)] w fun e w' => e = .returned (.func (.func 21) #[] #[.pointer (some ⟨w.heap.size, 0, none⟩)]) ∧ w' = w.alloc (.cells (bkA k B) 37) := by
  unfold bkA
  go_enter Tryd.func10, Tryd.ntmps10
  go_wp2
  go_ret
  exact ⟨rfl, rfl⟩
end Go.Proofs.YtihigingddaopaaDoor
