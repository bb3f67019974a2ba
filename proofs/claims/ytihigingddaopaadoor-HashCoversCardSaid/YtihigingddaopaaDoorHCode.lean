/- hash's Code and Place, the document's mix, Code, Place: the walks. -/
import Derived.Test.YtihigingddaopaaDoorHBits
namespace Go.Proofs.YtihigingddaopaaDoor
open Go.RowKit
set_option linter.unusedVariables false

theorem wrap64_nat {n : Nat} (h : n < 18446744073709551616) : IntKind.u64.wrap (n : Int) = (n : Int) := by rw [IntKind.wrap_u64]; omega
theorem mixed_model (x y : Nat) : bits .or .u64 (((Sb x 32 : Nat) : Int) * 2) ((Sb y 32 : Nat) : Int) = ((mixN x y 32 : Nat) : Int) := by
  have h1 := Sb_le x 32
  have h2 := Sb_le y 32
  have e : ((Sb x 32 : Nat) : Int) * 2 = ((2 * Sb x 32 : Nat) : Int) := by omega
  rw [e, u64_or_nat _ _ (by omega) (by omega), mix_or]
def mixedTo (f : Nat) (x y : Value) : Prop := True
theorem mixed64_any (x y : Nat) (hx : x < 4294967296) (hy : y < 4294967296) (w : World) (hm : MaskT w) :
    Calls Tryd.prog 28 #[.int .i64 x, .int .i64 y] w fun e w' => e = .returned (.int .u64 (mixN x y 32 : Nat)) ∧ Below w.heap.size w w' := by
  have HM := Lib.hid hm
  have K1 := Lib.hid fun W h => spread64_any x hx W h
  have K2 := Lib.hid fun W h => spread64_any y hy W h
  have HE := Lib.hid (mixed_model x y)
  have h1 := Sb_le x 32
  clear hm
  go_enter Tryd.func28, Tryd.ntmps28
  go_wp2_with fail
  (with_reducible refine (K1.out _ HM.out).mono ?_); rintro _ w1 ⟨rfl, l1⟩
  have L1 := Lib.hid l1
  clear l1
  go_wp2_with fail
  (with_reducible refine (K2.out _ (HM.out.below L1.out)).mono ?_); rintro _ w2 ⟨rfl, l2⟩
  have L2 := Lib.hid (below2' L1.out l2)
  clear l2
  go_wp2
  go_ret
  exact ⟨by rw [← HE.out]; rfl, L2.out⟩
theorem mixed32_any (x y : Nat) (hx : x < 4294967296) (hy : y < 4294967296) (w : World) (hm : MaskT w) :
    Calls Tryd.prog 22 #[.int .u32 x, .int .u32 y] w fun e w' => e = .returned (.int .u64 (mixN x y 32 : Nat)) ∧ Below w.heap.size w w' := by
  have HM := Lib.hid hm
  have K1 := Lib.hid fun W h => spread32_any x hx W h
  have K2 := Lib.hid fun W h => spread32_any y hy W h
  have HE := Lib.hid (mixed_model x y)
  have h1 := Sb_le x 32
  clear hm
  go_enter Tryd.func22, Tryd.ntmps22
  go_wp2_with fail
  (with_reducible refine (K1.out _ HM.out).mono ?_); rintro _ w1 ⟨rfl, l1⟩
  have L1 := Lib.hid l1
  clear l1
  go_wp2_with fail
  (with_reducible refine (K2.out _ (HM.out.below L1.out)).mono ?_); rintro _ w2 ⟨rfl, l2⟩
  have L2 := Lib.hid (below2' L1.out l2)
  clear l2
  go_wp2
  go_ret
  exact ⟨by rw [← HE.out]; rfl, L2.out⟩
/-- A place's number. -/
def codeN (p : Pt) : Nat := mixN (p.x + 1800000000).toNat (p.y + 900000000).toNat 32
def codeV (p : Pt) : Nat := if MayP p then codeN p else 0
theorem codeV_lt (p : Pt) : codeV p < 18446744073709551616 := by
  unfold codeV; split
  · exact mix_lt _ _ 32
  · omega
/-- A number's place. -/
def placeP (n : Nat) : Pt := ⟨(Gb (n / 2) 32 : Nat) - 1800000000, (Gb n 32 : Nat) - 900000000⟩
def placeV (n : Nat) : Pt := if MayP (placeP n) then placeP n else ⟨0, 0⟩
set_option maxRecDepth 100000 in
theorem code_any (p : Pt) (w : World) (hm : MaskT w) :
    Calls Tryd.prog 19 #[.agg #[.int .i64 p.x, .int .i64 p.y]] w fun e w' => e = .returned (.tuple #[.int .u64 (codeV p : Nat), .bool (mayB p)]) ∧ Below w.heap.size w w' := by
  have k0 := fun W => may_any p W
  by_cases h : MayP p
  · have hb := h
    unfold MayP at hb
    rw [may_yes h] at k0 ⊢
    obtain ⟨X, hX⟩ := Int.eq_ofNat_of_zero_le (show 0 ≤ p.x + 1800000000 by omega)
    obtain ⟨Y, hY⟩ := Int.eq_ofNat_of_zero_le (show 0 ≤ p.y + 900000000 by omega)
    have hc : codeV p = mixN X Y 32 := by
      unfold codeV codeN
      rw [if_pos h, hX, hY]
      rfl
    rw [hc]
    have K0 := Lib.hid k0
    have K1 := Lib.hid fun W hh => mixed64_any X Y (by omega) (by omega) W hh
    have HM := Lib.hid hm
    have e1 : p.x + 1800000000 = (X : Int) := hX
    have e2 : p.y + 900000000 = (Y : Int) := hY
    have e3 : IntKind.i64.wrap (p.x + 1800000000) = (X : Int) := by rw [IntKind.wrap_i64]; omega
    have e4 : IntKind.i64.wrap (p.y + 900000000) = (Y : Int) := by rw [IntKind.wrap_i64]; omega
    clear k0 hm h hc hX hY
    go_enter Tryd.func19, Tryd.ntmps19
    go_wp2_with fail
    (with_reducible refine (K0.out _).mono ?_); rintro _ w1 ⟨rfl, l1⟩
    have L1 := Lib.hid (((Below.refl w.heap.size w).alloc (Nat.le_refl _) _).trans (l1.mono (by simp)))
    obtain ⟨hc, hf⟩ := bcell l1
    have c0 : w1.cell? ⟨w.heap.size, 0, none⟩ = some (.int .i64 p.x) := by go_simp
    have c1 : w1.cell? ⟨w.heap.size, 1, none⟩ = some (.int .i64 p.y) := by go_simp
    clear l1 hc hf
    go_wp2_with fail
    (with_reducible refine (K1.out _ (HM.out.below L1.out)).mono ?_); rintro _ w2 ⟨rfl, l2⟩
    have L2 := Lib.hid (below2' L1.out l2)
    clear l2
    go_wp2
    exact bodyPost_ret (v := .tuple #[.int .u64 (mixN X Y 32 : Nat), .bool true]) (by simp [results, Tryd.results19, go_sem]) rfl ⟨rfl, L2.out⟩
  · rw [may_no h] at k0 ⊢
    have hc : codeV p = 0 := if_neg h
    rw [hc]
    have K0 := Lib.hid k0
    clear k0 h hc hm
    go_enter Tryd.func19, Tryd.ntmps19
    go_wp2_with fail
    (with_reducible refine (K0.out _).mono ?_); rintro _ w1 ⟨rfl, l1⟩
    have L1 := Lib.hid (((Below.refl w.heap.size w).alloc (Nat.le_refl _) _).trans (l1.mono (by simp)))
    clear l1
    go_wp2
    exact bodyPost_ret (v := .tuple #[.int .u64 0, .bool false]) (by simp [results, Tryd.results19, go_sem]) rfl ⟨rfl, L1.out⟩
theorem place_in64 (n : Nat) : -1800000000 ≤ (placeP n).x ∧ (placeP n).x ≤ 2494967295 ∧ -900000000 ≤ (placeP n).y ∧ (placeP n).y ≤ 3394967295 := by
  have h1 := Gb_lt (n / 2) 32
  have h2 := Gb_lt n 32
  unfold placeP
  dsimp only
  omega
end Go.Proofs.YtihigingddaopaaDoor
