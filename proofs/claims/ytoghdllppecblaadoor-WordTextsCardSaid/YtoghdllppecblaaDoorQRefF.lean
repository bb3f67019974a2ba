/- the document's Fold: the walk, range by range; the document's Stop. -/
import Derived.Test.YtoghdllppecblaaDoorQRefP
namespace Go.Proofs.YtoghdllppecblaaDoor
open Go.RowKit
set_option linter.unusedVariables false
set_option linter.unusedSimpArgs false

theorem isLow_in {c : Nat} (h : (48 ≤ c ∧ c ≤ 57) ∨ (97 ≤ c ∧ c ≤ 122)) : isLow (c : Int) = true := by unfold isLow; simp; omega
theorem valid_in {c : Nat} (h : c < 55296 ∨ (57343 < c ∧ c ≤ 1114111)) : validB (c : Int) = true := by unfold validB; simp; omega
theorem fold_up {c : Nat} (h1 : 65 ≤ c) (h2 : c ≤ 90) : foldL (c : Int) = encL ((c + 32 : Nat) : Int) := by
  unfold foldL
  have a : ¬ isLow (c : Int) = true := by unfold isLow; simp; omega
  have b : (decide (65 ≤ (c : Int)) && decide ((c : Int) ≤ 90)) = true := by simp; omega
  rw [if_neg a, if_pos b]
  congr 1
  omega
theorem fold_big {c : Nat} (h : 384 ≤ c) : foldL (c : Int) = if nilB (c : Int) = true then [] else encL (c : Int) := by
  unfold foldL
  have a : ¬ isLow (c : Int) = true := by unfold isLow; simp; omega
  have b : ¬ (decide (65 ≤ (c : Int)) && decide ((c : Int) ≤ 90)) = true := by simp; omega
  have d : ¬ (decide (224 ≤ (c : Int)) && decide ((c : Int) ≤ 254)) = true := by simp; omega
  rw [if_neg a, if_neg b, if_neg d, if_neg (by omega)]
theorem fold_self {c : Nat} (h : 384 ≤ c) (h1 : ¬ (8192 ≤ c ∧ c ≤ 8303)) (h2 : ¬ (12288 ≤ c ∧ c ≤ 12351)) (h3 : c ≠ 65533) (hv : c < 55296 ∨ (57343 < c ∧ c ≤ 1114111)) : foldL (c : Int) = encL (c : Int) := by
  rw [fold_big h, if_neg]
  unfold nilB
  rw [valid_in hv]
  simp
  omega
theorem fold_nil {c : Nat} (h : 384 ≤ c) (h1 : (8192 ≤ c ∧ c ≤ 8303) ∨ (12288 ≤ c ∧ c ≤ 12351) ∨ c = 65533 ∨ ¬ (c < 55296 ∨ (57343 < c ∧ c ≤ 1114111))) : foldL (c : Int) = [] := by
  rw [fold_big h, if_pos]
  unfold nilB validB
  simp
  omega
theorem fold_small : ∀ c : Nat, c < 192 → ¬ ((48 ≤ c ∧ c ≤ 57) ∨ (65 ≤ c ∧ c ≤ 90) ∨ (97 ≤ c ∧ c ≤ 122) ∨ c = 170 ∨ c = 181 ∨ c = 186) → foldL (c : Int) = [] := by decide +kernel
theorem fold_170 : foldL ((170 : Nat) : Int) = [97] := by decide +kernel
theorem fold_181 : foldL ((181 : Nat) : Int) = [117] := by decide +kernel
theorem fold_186 : foldL ((186 : Nat) : Int) = [111] := by decide +kernel
theorem fold_65533 : foldL ((65533 : Nat) : Int) = [] := by decide +kernel
theorem fold_255 : foldL ((255 : Nat) : Int) = [121] := by decide +kernel
theorem fold_more : ∀ n : Nat, n < 128 → foldL ((n + 256 : Nat) : Int) = if pieceL moreL n [] = [45] then [] else pieceL moreL n [] := by decide +kernel
theorem fold_base2 : ∀ n : Nat, n < 31 → foldL ((n + 224 : Nat) : Int) = if pieceL basesL n [] = [45] then [] else pieceL basesL n [] := by decide +kernel
theorem fold_base1 : ∀ n : Nat, n < 32 → foldL ((n + 192 : Nat) : Int) = if pieceL basesL n [] = [45] then [] else pieceL basesL n [] := by decide +kernel
theorem stops_pieces : ∀ n : Nat, n < 33 → stopL[n]? = some (pieceL stopsL n []) := by decide +kernel
theorem lookL_neg {c : Int} (h : c < 0) : lookL c = [] := by
  unfold lookL
  have : tabL.find? (fun r => decide (r.1 ≤ c) && decide (c ≤ r.2.1)) = none := by
    rw [List.find?_eq_none]
    intro r hr
    have h2 : ∀ r ∈ tabL, (0 : Int) ≤ r.1 := by decide
    have := h2 r hr
    simp
    omega
  rw [this]
theorem fold_neg {c : Int} (h : c < 0) : foldL c = [] := by
  unfold foldL
  have a : ¬ isLow c = true := by unfold isLow; simp; omega
  have b : ¬ (decide (65 ≤ c) && decide (c ≤ 90)) = true := by simp; omega
  have d : ¬ (decide (224 ≤ c) && decide (c ≤ 254)) = true := by simp; omega
  rw [if_neg a, if_neg b, if_neg d, if_pos (by omega), lookL_neg h]
set_option maxRecDepth 100000 in
set_option maxHeartbeats 1000000 in
theorem refFold_0 (c : Nat) (h1 : 0 ≤ c) (h2 : c ≤ 47) (z : Int) (hz : z = (c : Int)) (w : World) : Calls Tryd.prog 9 #[.int .i64 z] w fun e w' => e = .returned (.string (mkB (foldL z))) ∧ Below w.heap.size w w' := by
  have q0 : ¬ (65 : Int) ≤ z := by omega
  have q1 : z ≤ 90 := by omega
  have q2 : ¬ (97 : Int) ≤ z := by omega
  have q3 : z ≤ 122 := by omega
  have q4 : ¬ (48 : Int) ≤ z := by omega
  have q5 : z ≤ 57 := by omega
  have q6 : ¬ z < 0 := by omega
  have q7 : ¬ (1114111 : Int) < z := by omega
  have q8 : ¬ (55296 : Int) ≤ z := by omega
  have q9 : z < 57344 := by omega
  have q10 : ¬ (384 : Int) ≤ z := by omega
  have q11 : ¬ (8192 : Int) ≤ z := by omega
  have q12 : z ≤ 8303 := by omega
  have q13 : ¬ (12288 : Int) ≤ z := by omega
  have q14 : z ≤ 12351 := by omega
  have q15 : ¬ z = 65533 := by omega
  have q16 : ¬ z = 170 := by omega
  have q17 : ¬ z = 181 := by omega
  have q18 : ¬ z = 186 := by omega
  have q19 : ¬ z = 255 := by omega
  have q20 : ¬ (256 : Int) ≤ z := by omega
  have q21 : ¬ (224 : Int) ≤ z := by omega
  have q22 : ¬ (192 : Int) ≤ z := by omega
  have HE := Lib.hid (show foldL z = [] by rw [hz]; exact fold_small c (by omega) (by omega))
  clear h1 h2 hz
  go_enter Tryd.func9, Tryd.ntmps9
  go_wp2
  go_ret
  exact ⟨by rw [HE.out]; rfl, Below.refl _ _⟩
set_option maxRecDepth 100000 in
set_option maxHeartbeats 1000000 in
theorem refFold_1 (c : Nat) (h1 : 48 ≤ c) (h2 : c ≤ 57) (z : Int) (hz : z = (c : Int)) (w : World) : Calls Tryd.prog 9 #[.int .i64 z] w fun e w' => e = .returned (.string (mkB (foldL z))) ∧ Below w.heap.size w w' := by
  have q0 : ¬ (65 : Int) ≤ z := by omega
  have q1 : z ≤ 90 := by omega
  have q2 : ¬ (97 : Int) ≤ z := by omega
  have q3 : z ≤ 122 := by omega
  have q4 : (48 : Int) ≤ z := by omega
  have q5 : z ≤ 57 := by omega
  have q6 : ¬ z < 0 := by omega
  have q7 : ¬ (1114111 : Int) < z := by omega
  have q8 : ¬ (55296 : Int) ≤ z := by omega
  have q9 : z < 57344 := by omega
  have q10 : ¬ (384 : Int) ≤ z := by omega
  have q11 : ¬ (8192 : Int) ≤ z := by omega
  have q12 : z ≤ 8303 := by omega
  have q13 : ¬ (12288 : Int) ≤ z := by omega
  have q14 : z ≤ 12351 := by omega
  have q15 : ¬ z = 65533 := by omega
  have q16 : ¬ z = 170 := by omega
  have q17 : ¬ z = 181 := by omega
  have q18 : ¬ z = 186 := by omega
  have q19 : ¬ z = 255 := by omega
  have q20 : ¬ (256 : Int) ≤ z := by omega
  have q21 : ¬ (224 : Int) ≤ z := by omega
  have q22 : ¬ (192 : Int) ≤ z := by omega
  have hk := bytes_any c (valid_small (by omega) (by omega)) w
  have he : foldL (c : Int) = encL (c : Int) := fold_low (isLow_in (by omega))
  rw [← hz] at hk he
  have HK := Lib.hid hk
  have HE := Lib.hid he
  clear hk he hz
  clear h1 h2
  go_enter Tryd.func9, Tryd.ntmps9
  go_wp2_with fail
  (with_reducible refine HK.out.mono ?_); rintro _ w5 ⟨rfl, l5⟩
  have L5 := Lib.hid l5
  clear l5
  go_wp2
  go_ret
  exact ⟨by rw [HE.out]; rfl, L5.out⟩
set_option maxRecDepth 100000 in
set_option maxHeartbeats 1000000 in
theorem refFold_2 (c : Nat) (h1 : 58 ≤ c) (h2 : c ≤ 64) (z : Int) (hz : z = (c : Int)) (w : World) : Calls Tryd.prog 9 #[.int .i64 z] w fun e w' => e = .returned (.string (mkB (foldL z))) ∧ Below w.heap.size w w' := by
  have q0 : ¬ (65 : Int) ≤ z := by omega
  have q1 : z ≤ 90 := by omega
  have q2 : ¬ (97 : Int) ≤ z := by omega
  have q3 : z ≤ 122 := by omega
  have q4 : (48 : Int) ≤ z := by omega
  have q5 : ¬ z ≤ 57 := by omega
  have q6 : ¬ z < 0 := by omega
  have q7 : ¬ (1114111 : Int) < z := by omega
  have q8 : ¬ (55296 : Int) ≤ z := by omega
  have q9 : z < 57344 := by omega
  have q10 : ¬ (384 : Int) ≤ z := by omega
  have q11 : ¬ (8192 : Int) ≤ z := by omega
  have q12 : z ≤ 8303 := by omega
  have q13 : ¬ (12288 : Int) ≤ z := by omega
  have q14 : z ≤ 12351 := by omega
  have q15 : ¬ z = 65533 := by omega
  have q16 : ¬ z = 170 := by omega
  have q17 : ¬ z = 181 := by omega
  have q18 : ¬ z = 186 := by omega
  have q19 : ¬ z = 255 := by omega
  have q20 : ¬ (256 : Int) ≤ z := by omega
  have q21 : ¬ (224 : Int) ≤ z := by omega
  have q22 : ¬ (192 : Int) ≤ z := by omega
  have HE := Lib.hid (show foldL z = [] by rw [hz]; exact fold_small c (by omega) (by omega))
  clear h1 h2 hz
  go_enter Tryd.func9, Tryd.ntmps9
  go_wp2
  go_ret
  exact ⟨by rw [HE.out]; rfl, Below.refl _ _⟩
set_option maxRecDepth 100000 in
set_option maxHeartbeats 1000000 in
theorem refFold_3 (c : Nat) (h1 : 65 ≤ c) (h2 : c ≤ 90) (z : Int) (hz : z = (c : Int)) (w : World) : Calls Tryd.prog 9 #[.int .i64 z] w fun e w' => e = .returned (.string (mkB (foldL z))) ∧ Below w.heap.size w w' := by
  have q0 : (65 : Int) ≤ z := by omega
  have q1 : z ≤ 90 := by omega
  have q2 : ¬ (97 : Int) ≤ z := by omega
  have q3 : z ≤ 122 := by omega
  have q4 : (48 : Int) ≤ z := by omega
  have q5 : ¬ z ≤ 57 := by omega
  have q6 : ¬ z < 0 := by omega
  have q7 : ¬ (1114111 : Int) < z := by omega
  have q8 : ¬ (55296 : Int) ≤ z := by omega
  have q9 : z < 57344 := by omega
  have q10 : ¬ (384 : Int) ≤ z := by omega
  have q11 : ¬ (8192 : Int) ≤ z := by omega
  have q12 : z ≤ 8303 := by omega
  have q13 : ¬ (12288 : Int) ≤ z := by omega
  have q14 : z ≤ 12351 := by omega
  have q15 : ¬ z = 65533 := by omega
  have q16 : ¬ z = 170 := by omega
  have q17 : ¬ z = 181 := by omega
  have q18 : ¬ z = 186 := by omega
  have q19 : ¬ z = 255 := by omega
  have q20 : ¬ (256 : Int) ≤ z := by omega
  have q21 : ¬ (224 : Int) ≤ z := by omega
  have q22 : ¬ (192 : Int) ≤ z := by omega
  obtain ⟨d, hd⟩ : ∃ d : Nat, d = c + 32 := ⟨_, rfl⟩
  have r0 : (97 : Int) ≤ (d : Int) := by omega
  have r1 : (d : Int) ≤ 122 := by omega
  have r2 : (48 : Int) ≤ (d : Int) := by omega
  have r3 : ¬ (d : Int) ≤ 57 := by omega
  have hw1 : IntKind.i64.wrap (z + 32) = (d : Int) := by rw [IntWalk.i64_in _ (by omega)]; omega
  have HK := Lib.hid (bytes_any d (valid_small (by omega) (by omega)) w)
  have HE := Lib.hid (show foldL z = encL (d : Int) by rw [hz, hd]; exact fold_up (by omega) (by omega))
  clear h1 h2 hd hz
  go_enter Tryd.func9, Tryd.ntmps9
  go_wp2_with fail
  (with_reducible refine HK.out.mono ?_); rintro _ w5 ⟨rfl, l5⟩
  have L5 := Lib.hid l5
  clear l5
  go_wp2
  go_ret
  exact ⟨by rw [HE.out]; rfl, L5.out⟩
set_option maxRecDepth 100000 in
set_option maxHeartbeats 1000000 in
theorem refFold_4 (c : Nat) (h1 : 91 ≤ c) (h2 : c ≤ 96) (z : Int) (hz : z = (c : Int)) (w : World) : Calls Tryd.prog 9 #[.int .i64 z] w fun e w' => e = .returned (.string (mkB (foldL z))) ∧ Below w.heap.size w w' := by
  have q0 : (65 : Int) ≤ z := by omega
  have q1 : ¬ z ≤ 90 := by omega
  have q2 : ¬ (97 : Int) ≤ z := by omega
  have q3 : z ≤ 122 := by omega
  have q4 : (48 : Int) ≤ z := by omega
  have q5 : ¬ z ≤ 57 := by omega
  have q6 : ¬ z < 0 := by omega
  have q7 : ¬ (1114111 : Int) < z := by omega
  have q8 : ¬ (55296 : Int) ≤ z := by omega
  have q9 : z < 57344 := by omega
  have q10 : ¬ (384 : Int) ≤ z := by omega
  have q11 : ¬ (8192 : Int) ≤ z := by omega
  have q12 : z ≤ 8303 := by omega
  have q13 : ¬ (12288 : Int) ≤ z := by omega
  have q14 : z ≤ 12351 := by omega
  have q15 : ¬ z = 65533 := by omega
  have q16 : ¬ z = 170 := by omega
  have q17 : ¬ z = 181 := by omega
  have q18 : ¬ z = 186 := by omega
  have q19 : ¬ z = 255 := by omega
  have q20 : ¬ (256 : Int) ≤ z := by omega
  have q21 : ¬ (224 : Int) ≤ z := by omega
  have q22 : ¬ (192 : Int) ≤ z := by omega
  have HE := Lib.hid (show foldL z = [] by rw [hz]; exact fold_small c (by omega) (by omega))
  clear h1 h2 hz
  go_enter Tryd.func9, Tryd.ntmps9
  go_wp2
  go_ret
  exact ⟨by rw [HE.out]; rfl, Below.refl _ _⟩
set_option maxRecDepth 100000 in
set_option maxHeartbeats 1000000 in
theorem refFold_5 (c : Nat) (h1 : 97 ≤ c) (h2 : c ≤ 122) (z : Int) (hz : z = (c : Int)) (w : World) : Calls Tryd.prog 9 #[.int .i64 z] w fun e w' => e = .returned (.string (mkB (foldL z))) ∧ Below w.heap.size w w' := by
  have q0 : (65 : Int) ≤ z := by omega
  have q1 : ¬ z ≤ 90 := by omega
  have q2 : (97 : Int) ≤ z := by omega
  have q3 : z ≤ 122 := by omega
  have q4 : (48 : Int) ≤ z := by omega
  have q5 : ¬ z ≤ 57 := by omega
  have q6 : ¬ z < 0 := by omega
  have q7 : ¬ (1114111 : Int) < z := by omega
  have q8 : ¬ (55296 : Int) ≤ z := by omega
  have q9 : z < 57344 := by omega
  have q10 : ¬ (384 : Int) ≤ z := by omega
  have q11 : ¬ (8192 : Int) ≤ z := by omega
  have q12 : z ≤ 8303 := by omega
  have q13 : ¬ (12288 : Int) ≤ z := by omega
  have q14 : z ≤ 12351 := by omega
  have q15 : ¬ z = 65533 := by omega
  have q16 : ¬ z = 170 := by omega
  have q17 : ¬ z = 181 := by omega
  have q18 : ¬ z = 186 := by omega
  have q19 : ¬ z = 255 := by omega
  have q20 : ¬ (256 : Int) ≤ z := by omega
  have q21 : ¬ (224 : Int) ≤ z := by omega
  have q22 : ¬ (192 : Int) ≤ z := by omega
  have hk := bytes_any c (valid_small (by omega) (by omega)) w
  have he : foldL (c : Int) = encL (c : Int) := fold_low (isLow_in (by omega))
  rw [← hz] at hk he
  have HK := Lib.hid hk
  have HE := Lib.hid he
  clear hk he hz
  clear h1 h2
  go_enter Tryd.func9, Tryd.ntmps9
  go_wp2_with fail
  (with_reducible refine HK.out.mono ?_); rintro _ w5 ⟨rfl, l5⟩
  have L5 := Lib.hid l5
  clear l5
  go_wp2
  go_ret
  exact ⟨by rw [HE.out]; rfl, L5.out⟩
set_option maxRecDepth 100000 in
set_option maxHeartbeats 1000000 in
theorem refFold_6 (c : Nat) (h1 : 123 ≤ c) (h2 : c ≤ 169) (z : Int) (hz : z = (c : Int)) (w : World) : Calls Tryd.prog 9 #[.int .i64 z] w fun e w' => e = .returned (.string (mkB (foldL z))) ∧ Below w.heap.size w w' := by
  have q0 : (65 : Int) ≤ z := by omega
  have q1 : ¬ z ≤ 90 := by omega
  have q2 : (97 : Int) ≤ z := by omega
  have q3 : ¬ z ≤ 122 := by omega
  have q4 : (48 : Int) ≤ z := by omega
  have q5 : ¬ z ≤ 57 := by omega
  have q6 : ¬ z < 0 := by omega
  have q7 : ¬ (1114111 : Int) < z := by omega
  have q8 : ¬ (55296 : Int) ≤ z := by omega
  have q9 : z < 57344 := by omega
  have q10 : ¬ (384 : Int) ≤ z := by omega
  have q11 : ¬ (8192 : Int) ≤ z := by omega
  have q12 : z ≤ 8303 := by omega
  have q13 : ¬ (12288 : Int) ≤ z := by omega
  have q14 : z ≤ 12351 := by omega
  have q15 : ¬ z = 65533 := by omega
  have q16 : ¬ z = 170 := by omega
  have q17 : ¬ z = 181 := by omega
  have q18 : ¬ z = 186 := by omega
  have q19 : ¬ z = 255 := by omega
  have q20 : ¬ (256 : Int) ≤ z := by omega
  have q21 : ¬ (224 : Int) ≤ z := by omega
  have q22 : ¬ (192 : Int) ≤ z := by omega
  have HE := Lib.hid (show foldL z = [] by rw [hz]; exact fold_small c (by omega) (by omega))
  clear h1 h2 hz
  go_enter Tryd.func9, Tryd.ntmps9
  go_wp2
  go_ret
  exact ⟨by rw [HE.out]; rfl, Below.refl _ _⟩
set_option maxRecDepth 100000 in
set_option maxHeartbeats 1000000 in
theorem refFold_7 (c : Nat) (h1 : 170 ≤ c) (h2 : c ≤ 170) (z : Int) (hz : z = (c : Int)) (w : World) : Calls Tryd.prog 9 #[.int .i64 z] w fun e w' => e = .returned (.string (mkB (foldL z))) ∧ Below w.heap.size w w' := by
  obtain rfl : c = 170 := by omega
  subst hz
  have HE := Lib.hid fold_170
  clear h1 h2
  go_enter Tryd.func9, Tryd.ntmps9
  go_wp2
  go_ret
  exact ⟨by rw [HE.out]; rfl, Below.refl _ _⟩
set_option maxRecDepth 100000 in
set_option maxHeartbeats 1000000 in
theorem refFold_8 (c : Nat) (h1 : 171 ≤ c) (h2 : c ≤ 180) (z : Int) (hz : z = (c : Int)) (w : World) : Calls Tryd.prog 9 #[.int .i64 z] w fun e w' => e = .returned (.string (mkB (foldL z))) ∧ Below w.heap.size w w' := by
  have q0 : (65 : Int) ≤ z := by omega
  have q1 : ¬ z ≤ 90 := by omega
  have q2 : (97 : Int) ≤ z := by omega
  have q3 : ¬ z ≤ 122 := by omega
  have q4 : (48 : Int) ≤ z := by omega
  have q5 : ¬ z ≤ 57 := by omega
  have q6 : ¬ z < 0 := by omega
  have q7 : ¬ (1114111 : Int) < z := by omega
  have q8 : ¬ (55296 : Int) ≤ z := by omega
  have q9 : z < 57344 := by omega
  have q10 : ¬ (384 : Int) ≤ z := by omega
  have q11 : ¬ (8192 : Int) ≤ z := by omega
  have q12 : z ≤ 8303 := by omega
  have q13 : ¬ (12288 : Int) ≤ z := by omega
  have q14 : z ≤ 12351 := by omega
  have q15 : ¬ z = 65533 := by omega
  have q16 : ¬ z = 170 := by omega
  have q17 : ¬ z = 181 := by omega
  have q18 : ¬ z = 186 := by omega
  have q19 : ¬ z = 255 := by omega
  have q20 : ¬ (256 : Int) ≤ z := by omega
  have q21 : ¬ (224 : Int) ≤ z := by omega
  have q22 : ¬ (192 : Int) ≤ z := by omega
  have HE := Lib.hid (show foldL z = [] by rw [hz]; exact fold_small c (by omega) (by omega))
  clear h1 h2 hz
  go_enter Tryd.func9, Tryd.ntmps9
  go_wp2
  go_ret
  exact ⟨by rw [HE.out]; rfl, Below.refl _ _⟩
set_option maxRecDepth 100000 in
set_option maxHeartbeats 1000000 in
theorem refFold_9 (c : Nat) (h1 : 181 ≤ c) (h2 : c ≤ 181) (z : Int) (hz : z = (c : Int)) (w : World) : Calls Tryd.prog 9 #[.int .i64 z] w fun e w' => e = .returned (.string (mkB (foldL z))) ∧ Below w.heap.size w w' := by
  obtain rfl : c = 181 := by omega
  subst hz
  have HE := Lib.hid fold_181
  clear h1 h2
  go_enter Tryd.func9, Tryd.ntmps9
  go_wp2
  go_ret
  exact ⟨by rw [HE.out]; rfl, Below.refl _ _⟩
set_option maxRecDepth 100000 in
set_option maxHeartbeats 1000000 in
theorem refFold_10 (c : Nat) (h1 : 182 ≤ c) (h2 : c ≤ 185) (z : Int) (hz : z = (c : Int)) (w : World) : Calls Tryd.prog 9 #[.int .i64 z] w fun e w' => e = .returned (.string (mkB (foldL z))) ∧ Below w.heap.size w w' := by
  have q0 : (65 : Int) ≤ z := by omega
  have q1 : ¬ z ≤ 90 := by omega
  have q2 : (97 : Int) ≤ z := by omega
  have q3 : ¬ z ≤ 122 := by omega
  have q4 : (48 : Int) ≤ z := by omega
  have q5 : ¬ z ≤ 57 := by omega
  have q6 : ¬ z < 0 := by omega
  have q7 : ¬ (1114111 : Int) < z := by omega
  have q8 : ¬ (55296 : Int) ≤ z := by omega
  have q9 : z < 57344 := by omega
  have q10 : ¬ (384 : Int) ≤ z := by omega
  have q11 : ¬ (8192 : Int) ≤ z := by omega
  have q12 : z ≤ 8303 := by omega
  have q13 : ¬ (12288 : Int) ≤ z := by omega
  have q14 : z ≤ 12351 := by omega
  have q15 : ¬ z = 65533 := by omega
  have q16 : ¬ z = 170 := by omega
  have q17 : ¬ z = 181 := by omega
  have q18 : ¬ z = 186 := by omega
  have q19 : ¬ z = 255 := by omega
  have q20 : ¬ (256 : Int) ≤ z := by omega
  have q21 : ¬ (224 : Int) ≤ z := by omega
  have q22 : ¬ (192 : Int) ≤ z := by omega
  have HE := Lib.hid (show foldL z = [] by rw [hz]; exact fold_small c (by omega) (by omega))
  clear h1 h2 hz
  go_enter Tryd.func9, Tryd.ntmps9
  go_wp2
  go_ret
  exact ⟨by rw [HE.out]; rfl, Below.refl _ _⟩
set_option maxRecDepth 100000 in
set_option maxHeartbeats 1000000 in
theorem refFold_11 (c : Nat) (h1 : 186 ≤ c) (h2 : c ≤ 186) (z : Int) (hz : z = (c : Int)) (w : World) : Calls Tryd.prog 9 #[.int .i64 z] w fun e w' => e = .returned (.string (mkB (foldL z))) ∧ Below w.heap.size w w' := by
  obtain rfl : c = 186 := by omega
  subst hz
  have HE := Lib.hid fold_186
  clear h1 h2
  go_enter Tryd.func9, Tryd.ntmps9
  go_wp2
  go_ret
  exact ⟨by rw [HE.out]; rfl, Below.refl _ _⟩
set_option maxRecDepth 100000 in
set_option maxHeartbeats 1000000 in
theorem refFold_12 (c : Nat) (h1 : 187 ≤ c) (h2 : c ≤ 191) (z : Int) (hz : z = (c : Int)) (w : World) : Calls Tryd.prog 9 #[.int .i64 z] w fun e w' => e = .returned (.string (mkB (foldL z))) ∧ Below w.heap.size w w' := by
  have q0 : (65 : Int) ≤ z := by omega
  have q1 : ¬ z ≤ 90 := by omega
  have q2 : (97 : Int) ≤ z := by omega
  have q3 : ¬ z ≤ 122 := by omega
  have q4 : (48 : Int) ≤ z := by omega
  have q5 : ¬ z ≤ 57 := by omega
  have q6 : ¬ z < 0 := by omega
  have q7 : ¬ (1114111 : Int) < z := by omega
  have q8 : ¬ (55296 : Int) ≤ z := by omega
  have q9 : z < 57344 := by omega
  have q10 : ¬ (384 : Int) ≤ z := by omega
  have q11 : ¬ (8192 : Int) ≤ z := by omega
  have q12 : z ≤ 8303 := by omega
  have q13 : ¬ (12288 : Int) ≤ z := by omega
  have q14 : z ≤ 12351 := by omega
  have q15 : ¬ z = 65533 := by omega
  have q16 : ¬ z = 170 := by omega
  have q17 : ¬ z = 181 := by omega
  have q18 : ¬ z = 186 := by omega
  have q19 : ¬ z = 255 := by omega
  have q20 : ¬ (256 : Int) ≤ z := by omega
  have q21 : ¬ (224 : Int) ≤ z := by omega
  have q22 : ¬ (192 : Int) ≤ z := by omega
  have HE := Lib.hid (show foldL z = [] by rw [hz]; exact fold_small c (by omega) (by omega))
  clear h1 h2 hz
  go_enter Tryd.func9, Tryd.ntmps9
  go_wp2
  go_ret
  exact ⟨by rw [HE.out]; rfl, Below.refl _ _⟩
set_option maxRecDepth 100000 in
set_option maxHeartbeats 1000000 in
theorem refFold_13 (c : Nat) (h1 : 192 ≤ c) (h2 : c ≤ 223) (z : Int) (hz : z = (c : Int)) (w : World) : Calls Tryd.prog 9 #[.int .i64 z] w fun e w' => e = .returned (.string (mkB (foldL z))) ∧ Below w.heap.size w w' := by
  have q0 : (65 : Int) ≤ z := by omega
  have q1 : ¬ z ≤ 90 := by omega
  have q2 : (97 : Int) ≤ z := by omega
  have q3 : ¬ z ≤ 122 := by omega
  have q4 : (48 : Int) ≤ z := by omega
  have q5 : ¬ z ≤ 57 := by omega
  have q6 : ¬ z < 0 := by omega
  have q7 : ¬ (1114111 : Int) < z := by omega
  have q8 : ¬ (55296 : Int) ≤ z := by omega
  have q9 : z < 57344 := by omega
  have q10 : ¬ (384 : Int) ≤ z := by omega
  have q11 : ¬ (8192 : Int) ≤ z := by omega
  have q12 : z ≤ 8303 := by omega
  have q13 : ¬ (12288 : Int) ≤ z := by omega
  have q14 : z ≤ 12351 := by omega
  have q15 : ¬ z = 65533 := by omega
  have q16 : ¬ z = 170 := by omega
  have q17 : ¬ z = 181 := by omega
  have q18 : ¬ z = 186 := by omega
  have q19 : ¬ z = 255 := by omega
  have q20 : ¬ (256 : Int) ≤ z := by omega
  have q21 : ¬ (224 : Int) ≤ z := by omega
  have q22 : (192 : Int) ≤ z := by omega
  obtain ⟨n, hn⟩ : ∃ n : Nat, n = c - 192 := ⟨_, rfl⟩
  have hw1 : IntKind.i64.wrap (z - 192) = (n : Int) := by rw [IntWalk.i64_in _ (by omega)]; omega
  have K1 := Lib.hid fun W => bases_any W
  have k2 := fun W => piece_any basesL (by decide) n (by omega) W
  have hf := fold_base1 n (by omega)
  rw [show n + 192 = c by omega, ← hz] at hf
  obtain ⟨p, hp⟩ : ∃ p, p = pieceL basesL n [] := ⟨_, rfl⟩
  rw [← hp] at k2 hf
  have K2 := Lib.hid k2
  by_cases h45 : p = [45]
  · have HE := Lib.hid (show foldL z = [] by rw [hf, if_pos h45])
    have hq : ((mkB p).toList == [45]) = true := by rw [h45, ByteArray.toList_eq]; rfl
    clear h1 h2 hz hn hp k2 h45 hf
    go_enter Tryd.func9, Tryd.ntmps9
    go_wp2_with fail
    (with_reducible refine (K1.out _).mono ?_); rintro _ _ ⟨rfl, rfl⟩
    go_wp2_with fail
    (with_reducible refine (K2.out _).mono ?_); rintro _ _ ⟨rfl, rfl⟩
    go_wp2
    go_ret
    exact ⟨by rw [HE.out]; rfl, Below.refl _ _⟩
  · have HE := Lib.hid (show foldL z = p by rw [hf, if_neg h45])
    have hq : ((mkB p).toList == [45]) = false := by rw [ByteArray.toList_eq]; simp [mkB, h45]
    clear h1 h2 hz hn hp k2 h45 hf
    go_enter Tryd.func9, Tryd.ntmps9
    go_wp2_with fail
    (with_reducible refine (K1.out _).mono ?_); rintro _ _ ⟨rfl, rfl⟩
    go_wp2_with fail
    (with_reducible refine (K2.out _).mono ?_); rintro _ _ ⟨rfl, rfl⟩
    go_wp2
    go_ret
    exact ⟨by rw [HE.out]; rfl, Below.refl _ _⟩
set_option maxRecDepth 100000 in
set_option maxHeartbeats 1000000 in
theorem refFold_14 (c : Nat) (h1 : 224 ≤ c) (h2 : c ≤ 254) (z : Int) (hz : z = (c : Int)) (w : World) : Calls Tryd.prog 9 #[.int .i64 z] w fun e w' => e = .returned (.string (mkB (foldL z))) ∧ Below w.heap.size w w' := by
  have q0 : (65 : Int) ≤ z := by omega
  have q1 : ¬ z ≤ 90 := by omega
  have q2 : (97 : Int) ≤ z := by omega
  have q3 : ¬ z ≤ 122 := by omega
  have q4 : (48 : Int) ≤ z := by omega
  have q5 : ¬ z ≤ 57 := by omega
  have q6 : ¬ z < 0 := by omega
  have q7 : ¬ (1114111 : Int) < z := by omega
  have q8 : ¬ (55296 : Int) ≤ z := by omega
  have q9 : z < 57344 := by omega
  have q10 : ¬ (384 : Int) ≤ z := by omega
  have q11 : ¬ (8192 : Int) ≤ z := by omega
  have q12 : z ≤ 8303 := by omega
  have q13 : ¬ (12288 : Int) ≤ z := by omega
  have q14 : z ≤ 12351 := by omega
  have q15 : ¬ z = 65533 := by omega
  have q16 : ¬ z = 170 := by omega
  have q17 : ¬ z = 181 := by omega
  have q18 : ¬ z = 186 := by omega
  have q19 : ¬ z = 255 := by omega
  have q20 : ¬ (256 : Int) ≤ z := by omega
  have q21 : (224 : Int) ≤ z := by omega
  have q22 : (192 : Int) ≤ z := by omega
  obtain ⟨n, hn⟩ : ∃ n : Nat, n = c - 224 := ⟨_, rfl⟩
  have hw1 : IntKind.i64.wrap (z - 224) = (n : Int) := by rw [IntWalk.i64_in _ (by omega)]; omega
  have K1 := Lib.hid fun W => bases_any W
  have k2 := fun W => piece_any basesL (by decide) n (by omega) W
  have hf := fold_base2 n (by omega)
  rw [show n + 224 = c by omega, ← hz] at hf
  obtain ⟨p, hp⟩ : ∃ p, p = pieceL basesL n [] := ⟨_, rfl⟩
  rw [← hp] at k2 hf
  have K2 := Lib.hid k2
  by_cases h45 : p = [45]
  · have HE := Lib.hid (show foldL z = [] by rw [hf, if_pos h45])
    have hq : ((mkB p).toList == [45]) = true := by rw [h45, ByteArray.toList_eq]; rfl
    clear h1 h2 hz hn hp k2 h45 hf
    go_enter Tryd.func9, Tryd.ntmps9
    go_wp2_with fail
    (with_reducible refine (K1.out _).mono ?_); rintro _ _ ⟨rfl, rfl⟩
    go_wp2_with fail
    (with_reducible refine (K2.out _).mono ?_); rintro _ _ ⟨rfl, rfl⟩
    go_wp2
    go_ret
    exact ⟨by rw [HE.out]; rfl, Below.refl _ _⟩
  · have HE := Lib.hid (show foldL z = p by rw [hf, if_neg h45])
    have hq : ((mkB p).toList == [45]) = false := by rw [ByteArray.toList_eq]; simp [mkB, h45]
    clear h1 h2 hz hn hp k2 h45 hf
    go_enter Tryd.func9, Tryd.ntmps9
    go_wp2_with fail
    (with_reducible refine (K1.out _).mono ?_); rintro _ _ ⟨rfl, rfl⟩
    go_wp2_with fail
    (with_reducible refine (K2.out _).mono ?_); rintro _ _ ⟨rfl, rfl⟩
    go_wp2
    go_ret
    exact ⟨by rw [HE.out]; rfl, Below.refl _ _⟩
set_option maxRecDepth 100000 in
set_option maxHeartbeats 1000000 in
theorem refFold_15 (c : Nat) (h1 : 255 ≤ c) (h2 : c ≤ 255) (z : Int) (hz : z = (c : Int)) (w : World) : Calls Tryd.prog 9 #[.int .i64 z] w fun e w' => e = .returned (.string (mkB (foldL z))) ∧ Below w.heap.size w w' := by
  obtain rfl : c = 255 := by omega
  subst hz
  have HE := Lib.hid fold_255
  clear h1 h2
  go_enter Tryd.func9, Tryd.ntmps9
  go_wp2
  go_ret
  exact ⟨by rw [HE.out]; rfl, Below.refl _ _⟩
set_option maxRecDepth 100000 in
set_option maxHeartbeats 1000000 in
theorem refFold_16 (c : Nat) (h1 : 256 ≤ c) (h2 : c ≤ 383) (z : Int) (hz : z = (c : Int)) (w : World) : Calls Tryd.prog 9 #[.int .i64 z] w fun e w' => e = .returned (.string (mkB (foldL z))) ∧ Below w.heap.size w w' := by
  have q0 : (65 : Int) ≤ z := by omega
  have q1 : ¬ z ≤ 90 := by omega
  have q2 : (97 : Int) ≤ z := by omega
  have q3 : ¬ z ≤ 122 := by omega
  have q4 : (48 : Int) ≤ z := by omega
  have q5 : ¬ z ≤ 57 := by omega
  have q6 : ¬ z < 0 := by omega
  have q7 : ¬ (1114111 : Int) < z := by omega
  have q8 : ¬ (55296 : Int) ≤ z := by omega
  have q9 : z < 57344 := by omega
  have q10 : ¬ (384 : Int) ≤ z := by omega
  have q11 : ¬ (8192 : Int) ≤ z := by omega
  have q12 : z ≤ 8303 := by omega
  have q13 : ¬ (12288 : Int) ≤ z := by omega
  have q14 : z ≤ 12351 := by omega
  have q15 : ¬ z = 65533 := by omega
  have q16 : ¬ z = 170 := by omega
  have q17 : ¬ z = 181 := by omega
  have q18 : ¬ z = 186 := by omega
  have q19 : ¬ z = 255 := by omega
  have q20 : (256 : Int) ≤ z := by omega
  have q21 : (224 : Int) ≤ z := by omega
  have q22 : (192 : Int) ≤ z := by omega
  obtain ⟨n, hn⟩ : ∃ n : Nat, n = c - 256 := ⟨_, rfl⟩
  have hw1 : IntKind.i64.wrap (z - 256) = (n : Int) := by rw [IntWalk.i64_in _ (by omega)]; omega
  have K1 := Lib.hid fun W => more_any W
  have k2 := fun W => piece_any moreL (by decide) n (by omega) W
  have hf := fold_more n (by omega)
  rw [show n + 256 = c by omega, ← hz] at hf
  obtain ⟨p, hp⟩ : ∃ p, p = pieceL moreL n [] := ⟨_, rfl⟩
  rw [← hp] at k2 hf
  have K2 := Lib.hid k2
  by_cases h45 : p = [45]
  · have HE := Lib.hid (show foldL z = [] by rw [hf, if_pos h45])
    have hq : ((mkB p).toList == [45]) = true := by rw [h45, ByteArray.toList_eq]; rfl
    clear h1 h2 hz hn hp k2 h45 hf
    go_enter Tryd.func9, Tryd.ntmps9
    go_wp2_with fail
    (with_reducible refine (K1.out _).mono ?_); rintro _ _ ⟨rfl, rfl⟩
    go_wp2_with fail
    (with_reducible refine (K2.out _).mono ?_); rintro _ _ ⟨rfl, rfl⟩
    go_wp2
    go_ret
    exact ⟨by rw [HE.out]; rfl, Below.refl _ _⟩
  · have HE := Lib.hid (show foldL z = p by rw [hf, if_neg h45])
    have hq : ((mkB p).toList == [45]) = false := by rw [ByteArray.toList_eq]; simp [mkB, h45]
    clear h1 h2 hz hn hp k2 h45 hf
    go_enter Tryd.func9, Tryd.ntmps9
    go_wp2_with fail
    (with_reducible refine (K1.out _).mono ?_); rintro _ _ ⟨rfl, rfl⟩
    go_wp2_with fail
    (with_reducible refine (K2.out _).mono ?_); rintro _ _ ⟨rfl, rfl⟩
    go_wp2
    go_ret
    exact ⟨by rw [HE.out]; rfl, Below.refl _ _⟩
set_option maxRecDepth 100000 in
set_option maxHeartbeats 1000000 in
theorem refFold_17 (c : Nat) (h1 : 384 ≤ c) (h2 : c ≤ 8191) (z : Int) (hz : z = (c : Int)) (w : World) : Calls Tryd.prog 9 #[.int .i64 z] w fun e w' => e = .returned (.string (mkB (foldL z))) ∧ Below w.heap.size w w' := by
  have q0 : (65 : Int) ≤ z := by omega
  have q1 : ¬ z ≤ 90 := by omega
  have q2 : (97 : Int) ≤ z := by omega
  have q3 : ¬ z ≤ 122 := by omega
  have q4 : (48 : Int) ≤ z := by omega
  have q5 : ¬ z ≤ 57 := by omega
  have q6 : ¬ z < 0 := by omega
  have q7 : ¬ (1114111 : Int) < z := by omega
  have q8 : ¬ (55296 : Int) ≤ z := by omega
  have q9 : z < 57344 := by omega
  have q10 : (384 : Int) ≤ z := by omega
  have q11 : ¬ (8192 : Int) ≤ z := by omega
  have q12 : z ≤ 8303 := by omega
  have q13 : ¬ (12288 : Int) ≤ z := by omega
  have q14 : z ≤ 12351 := by omega
  have q15 : ¬ z = 65533 := by omega
  have q16 : ¬ z = 170 := by omega
  have q17 : ¬ z = 181 := by omega
  have q18 : ¬ z = 186 := by omega
  have q19 : ¬ z = 255 := by omega
  have q20 : (256 : Int) ≤ z := by omega
  have q21 : (224 : Int) ≤ z := by omega
  have q22 : (192 : Int) ≤ z := by omega
  have hk := bytes_any c (valid_in (by omega)) w
  have he : foldL (c : Int) = encL (c : Int) := fold_self (by omega) (by omega) (by omega) (by omega) (by omega)
  rw [← hz] at hk he
  have HK := Lib.hid hk
  have HE := Lib.hid he
  clear hk he hz
  clear h1 h2
  go_enter Tryd.func9, Tryd.ntmps9
  go_wp2_with fail
  (with_reducible refine HK.out.mono ?_); rintro _ w5 ⟨rfl, l5⟩
  have L5 := Lib.hid l5
  clear l5
  go_wp2
  go_ret
  exact ⟨by rw [HE.out]; rfl, L5.out⟩
set_option maxRecDepth 100000 in
set_option maxHeartbeats 1000000 in
theorem refFold_18 (c : Nat) (h1 : 8192 ≤ c) (h2 : c ≤ 8303) (z : Int) (hz : z = (c : Int)) (w : World) : Calls Tryd.prog 9 #[.int .i64 z] w fun e w' => e = .returned (.string (mkB (foldL z))) ∧ Below w.heap.size w w' := by
  have q0 : (65 : Int) ≤ z := by omega
  have q1 : ¬ z ≤ 90 := by omega
  have q2 : (97 : Int) ≤ z := by omega
  have q3 : ¬ z ≤ 122 := by omega
  have q4 : (48 : Int) ≤ z := by omega
  have q5 : ¬ z ≤ 57 := by omega
  have q6 : ¬ z < 0 := by omega
  have q7 : ¬ (1114111 : Int) < z := by omega
  have q8 : ¬ (55296 : Int) ≤ z := by omega
  have q9 : z < 57344 := by omega
  have q10 : (384 : Int) ≤ z := by omega
  have q11 : (8192 : Int) ≤ z := by omega
  have q12 : z ≤ 8303 := by omega
  have q13 : ¬ (12288 : Int) ≤ z := by omega
  have q14 : z ≤ 12351 := by omega
  have q15 : ¬ z = 65533 := by omega
  have q16 : ¬ z = 170 := by omega
  have q17 : ¬ z = 181 := by omega
  have q18 : ¬ z = 186 := by omega
  have q19 : ¬ z = 255 := by omega
  have q20 : (256 : Int) ≤ z := by omega
  have q21 : (224 : Int) ≤ z := by omega
  have q22 : (192 : Int) ≤ z := by omega
  have HE := Lib.hid (show foldL z = [] by rw [hz]; exact fold_nil (by omega) (by omega))
  clear h1 h2 hz
  go_enter Tryd.func9, Tryd.ntmps9
  go_wp2
  go_ret
  exact ⟨by rw [HE.out]; rfl, Below.refl _ _⟩
set_option maxRecDepth 100000 in
set_option maxHeartbeats 1000000 in
theorem refFold_19 (c : Nat) (h1 : 8304 ≤ c) (h2 : c ≤ 12287) (z : Int) (hz : z = (c : Int)) (w : World) : Calls Tryd.prog 9 #[.int .i64 z] w fun e w' => e = .returned (.string (mkB (foldL z))) ∧ Below w.heap.size w w' := by
  have q0 : (65 : Int) ≤ z := by omega
  have q1 : ¬ z ≤ 90 := by omega
  have q2 : (97 : Int) ≤ z := by omega
  have q3 : ¬ z ≤ 122 := by omega
  have q4 : (48 : Int) ≤ z := by omega
  have q5 : ¬ z ≤ 57 := by omega
  have q6 : ¬ z < 0 := by omega
  have q7 : ¬ (1114111 : Int) < z := by omega
  have q8 : ¬ (55296 : Int) ≤ z := by omega
  have q9 : z < 57344 := by omega
  have q10 : (384 : Int) ≤ z := by omega
  have q11 : (8192 : Int) ≤ z := by omega
  have q12 : ¬ z ≤ 8303 := by omega
  have q13 : ¬ (12288 : Int) ≤ z := by omega
  have q14 : z ≤ 12351 := by omega
  have q15 : ¬ z = 65533 := by omega
  have q16 : ¬ z = 170 := by omega
  have q17 : ¬ z = 181 := by omega
  have q18 : ¬ z = 186 := by omega
  have q19 : ¬ z = 255 := by omega
  have q20 : (256 : Int) ≤ z := by omega
  have q21 : (224 : Int) ≤ z := by omega
  have q22 : (192 : Int) ≤ z := by omega
  have hk := bytes_any c (valid_in (by omega)) w
  have he : foldL (c : Int) = encL (c : Int) := fold_self (by omega) (by omega) (by omega) (by omega) (by omega)
  rw [← hz] at hk he
  have HK := Lib.hid hk
  have HE := Lib.hid he
  clear hk he hz
  clear h1 h2
  go_enter Tryd.func9, Tryd.ntmps9
  go_wp2_with fail
  (with_reducible refine HK.out.mono ?_); rintro _ w5 ⟨rfl, l5⟩
  have L5 := Lib.hid l5
  clear l5
  go_wp2
  go_ret
  exact ⟨by rw [HE.out]; rfl, L5.out⟩
set_option maxRecDepth 100000 in
set_option maxHeartbeats 1000000 in
theorem refFold_20 (c : Nat) (h1 : 12288 ≤ c) (h2 : c ≤ 12351) (z : Int) (hz : z = (c : Int)) (w : World) : Calls Tryd.prog 9 #[.int .i64 z] w fun e w' => e = .returned (.string (mkB (foldL z))) ∧ Below w.heap.size w w' := by
  have q0 : (65 : Int) ≤ z := by omega
  have q1 : ¬ z ≤ 90 := by omega
  have q2 : (97 : Int) ≤ z := by omega
  have q3 : ¬ z ≤ 122 := by omega
  have q4 : (48 : Int) ≤ z := by omega
  have q5 : ¬ z ≤ 57 := by omega
  have q6 : ¬ z < 0 := by omega
  have q7 : ¬ (1114111 : Int) < z := by omega
  have q8 : ¬ (55296 : Int) ≤ z := by omega
  have q9 : z < 57344 := by omega
  have q10 : (384 : Int) ≤ z := by omega
  have q11 : (8192 : Int) ≤ z := by omega
  have q12 : ¬ z ≤ 8303 := by omega
  have q13 : (12288 : Int) ≤ z := by omega
  have q14 : z ≤ 12351 := by omega
  have q15 : ¬ z = 65533 := by omega
  have q16 : ¬ z = 170 := by omega
  have q17 : ¬ z = 181 := by omega
  have q18 : ¬ z = 186 := by omega
  have q19 : ¬ z = 255 := by omega
  have q20 : (256 : Int) ≤ z := by omega
  have q21 : (224 : Int) ≤ z := by omega
  have q22 : (192 : Int) ≤ z := by omega
  have HE := Lib.hid (show foldL z = [] by rw [hz]; exact fold_nil (by omega) (by omega))
  clear h1 h2 hz
  go_enter Tryd.func9, Tryd.ntmps9
  go_wp2
  go_ret
  exact ⟨by rw [HE.out]; rfl, Below.refl _ _⟩
set_option maxRecDepth 100000 in
set_option maxHeartbeats 1000000 in
theorem refFold_21 (c : Nat) (h1 : 12352 ≤ c) (h2 : c ≤ 55295) (z : Int) (hz : z = (c : Int)) (w : World) : Calls Tryd.prog 9 #[.int .i64 z] w fun e w' => e = .returned (.string (mkB (foldL z))) ∧ Below w.heap.size w w' := by
  have q0 : (65 : Int) ≤ z := by omega
  have q1 : ¬ z ≤ 90 := by omega
  have q2 : (97 : Int) ≤ z := by omega
  have q3 : ¬ z ≤ 122 := by omega
  have q4 : (48 : Int) ≤ z := by omega
  have q5 : ¬ z ≤ 57 := by omega
  have q6 : ¬ z < 0 := by omega
  have q7 : ¬ (1114111 : Int) < z := by omega
  have q8 : ¬ (55296 : Int) ≤ z := by omega
  have q9 : z < 57344 := by omega
  have q10 : (384 : Int) ≤ z := by omega
  have q11 : (8192 : Int) ≤ z := by omega
  have q12 : ¬ z ≤ 8303 := by omega
  have q13 : (12288 : Int) ≤ z := by omega
  have q14 : ¬ z ≤ 12351 := by omega
  have q15 : ¬ z = 65533 := by omega
  have q16 : ¬ z = 170 := by omega
  have q17 : ¬ z = 181 := by omega
  have q18 : ¬ z = 186 := by omega
  have q19 : ¬ z = 255 := by omega
  have q20 : (256 : Int) ≤ z := by omega
  have q21 : (224 : Int) ≤ z := by omega
  have q22 : (192 : Int) ≤ z := by omega
  have hk := bytes_any c (valid_in (by omega)) w
  have he : foldL (c : Int) = encL (c : Int) := fold_self (by omega) (by omega) (by omega) (by omega) (by omega)
  rw [← hz] at hk he
  have HK := Lib.hid hk
  have HE := Lib.hid he
  clear hk he hz
  clear h1 h2
  go_enter Tryd.func9, Tryd.ntmps9
  go_wp2_with fail
  (with_reducible refine HK.out.mono ?_); rintro _ w5 ⟨rfl, l5⟩
  have L5 := Lib.hid l5
  clear l5
  go_wp2
  go_ret
  exact ⟨by rw [HE.out]; rfl, L5.out⟩
set_option maxRecDepth 100000 in
set_option maxHeartbeats 1000000 in
theorem refFold_22 (c : Nat) (h1 : 55296 ≤ c) (h2 : c ≤ 57343) (z : Int) (hz : z = (c : Int)) (w : World) : Calls Tryd.prog 9 #[.int .i64 z] w fun e w' => e = .returned (.string (mkB (foldL z))) ∧ Below w.heap.size w w' := by
  have q0 : (65 : Int) ≤ z := by omega
  have q1 : ¬ z ≤ 90 := by omega
  have q2 : (97 : Int) ≤ z := by omega
  have q3 : ¬ z ≤ 122 := by omega
  have q4 : (48 : Int) ≤ z := by omega
  have q5 : ¬ z ≤ 57 := by omega
  have q6 : ¬ z < 0 := by omega
  have q7 : ¬ (1114111 : Int) < z := by omega
  have q8 : (55296 : Int) ≤ z := by omega
  have q9 : z < 57344 := by omega
  have q10 : (384 : Int) ≤ z := by omega
  have q11 : (8192 : Int) ≤ z := by omega
  have q12 : ¬ z ≤ 8303 := by omega
  have q13 : (12288 : Int) ≤ z := by omega
  have q14 : ¬ z ≤ 12351 := by omega
  have q15 : ¬ z = 65533 := by omega
  have q16 : ¬ z = 170 := by omega
  have q17 : ¬ z = 181 := by omega
  have q18 : ¬ z = 186 := by omega
  have q19 : ¬ z = 255 := by omega
  have q20 : (256 : Int) ≤ z := by omega
  have q21 : (224 : Int) ≤ z := by omega
  have q22 : (192 : Int) ≤ z := by omega
  have HE := Lib.hid (show foldL z = [] by rw [hz]; exact fold_nil (by omega) (by omega))
  clear h1 h2 hz
  go_enter Tryd.func9, Tryd.ntmps9
  go_wp2
  go_ret
  exact ⟨by rw [HE.out]; rfl, Below.refl _ _⟩
set_option maxRecDepth 100000 in
set_option maxHeartbeats 1000000 in
theorem refFold_23 (c : Nat) (h1 : 57344 ≤ c) (h2 : c ≤ 65532) (z : Int) (hz : z = (c : Int)) (w : World) : Calls Tryd.prog 9 #[.int .i64 z] w fun e w' => e = .returned (.string (mkB (foldL z))) ∧ Below w.heap.size w w' := by
  have q0 : (65 : Int) ≤ z := by omega
  have q1 : ¬ z ≤ 90 := by omega
  have q2 : (97 : Int) ≤ z := by omega
  have q3 : ¬ z ≤ 122 := by omega
  have q4 : (48 : Int) ≤ z := by omega
  have q5 : ¬ z ≤ 57 := by omega
  have q6 : ¬ z < 0 := by omega
  have q7 : ¬ (1114111 : Int) < z := by omega
  have q8 : (55296 : Int) ≤ z := by omega
  have q9 : ¬ z < 57344 := by omega
  have q10 : (384 : Int) ≤ z := by omega
  have q11 : (8192 : Int) ≤ z := by omega
  have q12 : ¬ z ≤ 8303 := by omega
  have q13 : (12288 : Int) ≤ z := by omega
  have q14 : ¬ z ≤ 12351 := by omega
  have q15 : ¬ z = 65533 := by omega
  have q16 : ¬ z = 170 := by omega
  have q17 : ¬ z = 181 := by omega
  have q18 : ¬ z = 186 := by omega
  have q19 : ¬ z = 255 := by omega
  have q20 : (256 : Int) ≤ z := by omega
  have q21 : (224 : Int) ≤ z := by omega
  have q22 : (192 : Int) ≤ z := by omega
  have hk := bytes_any c (valid_in (by omega)) w
  have he : foldL (c : Int) = encL (c : Int) := fold_self (by omega) (by omega) (by omega) (by omega) (by omega)
  rw [← hz] at hk he
  have HK := Lib.hid hk
  have HE := Lib.hid he
  clear hk he hz
  clear h1 h2
  go_enter Tryd.func9, Tryd.ntmps9
  go_wp2_with fail
  (with_reducible refine HK.out.mono ?_); rintro _ w5 ⟨rfl, l5⟩
  have L5 := Lib.hid l5
  clear l5
  go_wp2
  go_ret
  exact ⟨by rw [HE.out]; rfl, L5.out⟩
set_option maxRecDepth 100000 in
set_option maxHeartbeats 1000000 in
theorem refFold_24 (c : Nat) (h1 : 65533 ≤ c) (h2 : c ≤ 65533) (z : Int) (hz : z = (c : Int)) (w : World) : Calls Tryd.prog 9 #[.int .i64 z] w fun e w' => e = .returned (.string (mkB (foldL z))) ∧ Below w.heap.size w w' := by
  obtain rfl : c = 65533 := by omega
  subst hz
  have HE := Lib.hid fold_65533
  clear h1 h2
  go_enter Tryd.func9, Tryd.ntmps9
  go_wp2
  go_ret
  exact ⟨by rw [HE.out]; rfl, Below.refl _ _⟩
set_option maxRecDepth 100000 in
set_option maxHeartbeats 1000000 in
theorem refFold_25 (c : Nat) (h1 : 65534 ≤ c) (h2 : c ≤ 1114111) (z : Int) (hz : z = (c : Int)) (w : World) : Calls Tryd.prog 9 #[.int .i64 z] w fun e w' => e = .returned (.string (mkB (foldL z))) ∧ Below w.heap.size w w' := by
  have q0 : (65 : Int) ≤ z := by omega
  have q1 : ¬ z ≤ 90 := by omega
  have q2 : (97 : Int) ≤ z := by omega
  have q3 : ¬ z ≤ 122 := by omega
  have q4 : (48 : Int) ≤ z := by omega
  have q5 : ¬ z ≤ 57 := by omega
  have q6 : ¬ z < 0 := by omega
  have q7 : ¬ (1114111 : Int) < z := by omega
  have q8 : (55296 : Int) ≤ z := by omega
  have q9 : ¬ z < 57344 := by omega
  have q10 : (384 : Int) ≤ z := by omega
  have q11 : (8192 : Int) ≤ z := by omega
  have q12 : ¬ z ≤ 8303 := by omega
  have q13 : (12288 : Int) ≤ z := by omega
  have q14 : ¬ z ≤ 12351 := by omega
  have q15 : ¬ z = 65533 := by omega
  have q16 : ¬ z = 170 := by omega
  have q17 : ¬ z = 181 := by omega
  have q18 : ¬ z = 186 := by omega
  have q19 : ¬ z = 255 := by omega
  have q20 : (256 : Int) ≤ z := by omega
  have q21 : (224 : Int) ≤ z := by omega
  have q22 : (192 : Int) ≤ z := by omega
  have hk := bytes_any c (valid_in (by omega)) w
  have he : foldL (c : Int) = encL (c : Int) := fold_self (by omega) (by omega) (by omega) (by omega) (by omega)
  rw [← hz] at hk he
  have HK := Lib.hid hk
  have HE := Lib.hid he
  clear hk he hz
  clear h1 h2
  go_enter Tryd.func9, Tryd.ntmps9
  go_wp2_with fail
  (with_reducible refine HK.out.mono ?_); rintro _ w5 ⟨rfl, l5⟩
  have L5 := Lib.hid l5
  clear l5
  go_wp2
  go_ret
  exact ⟨by rw [HE.out]; rfl, L5.out⟩
set_option maxRecDepth 100000 in
set_option maxHeartbeats 1000000 in
theorem refFold_26 (c : Nat) (h1 : 1114112 ≤ c) (h2 : c ≤ 999999999999) (z : Int) (hz : z = (c : Int)) (w : World) : Calls Tryd.prog 9 #[.int .i64 z] w fun e w' => e = .returned (.string (mkB (foldL z))) ∧ Below w.heap.size w w' := by
  have q0 : (65 : Int) ≤ z := by omega
  have q1 : ¬ z ≤ 90 := by omega
  have q2 : (97 : Int) ≤ z := by omega
  have q3 : ¬ z ≤ 122 := by omega
  have q4 : (48 : Int) ≤ z := by omega
  have q5 : ¬ z ≤ 57 := by omega
  have q6 : ¬ z < 0 := by omega
  have q7 : (1114111 : Int) < z := by omega
  have q8 : (55296 : Int) ≤ z := by omega
  have q9 : ¬ z < 57344 := by omega
  have q10 : (384 : Int) ≤ z := by omega
  have q11 : (8192 : Int) ≤ z := by omega
  have q12 : ¬ z ≤ 8303 := by omega
  have q13 : (12288 : Int) ≤ z := by omega
  have q14 : ¬ z ≤ 12351 := by omega
  have q15 : ¬ z = 65533 := by omega
  have q16 : ¬ z = 170 := by omega
  have q17 : ¬ z = 181 := by omega
  have q18 : ¬ z = 186 := by omega
  have q19 : ¬ z = 255 := by omega
  have q20 : (256 : Int) ≤ z := by omega
  have q21 : (224 : Int) ≤ z := by omega
  have q22 : (192 : Int) ≤ z := by omega
  have HE := Lib.hid (show foldL z = [] by rw [hz]; exact fold_nil (by omega) (by omega))
  clear h1 h2 hz
  go_enter Tryd.func9, Tryd.ntmps9
  go_wp2
  go_ret
  exact ⟨by rw [HE.out]; rfl, Below.refl _ _⟩
set_option maxRecDepth 100000 in
theorem refFold_neg (c : Int) (h : c < 0) (w : World) : Calls Tryd.prog 9 #[.int .i64 c] w fun e w' => e = .returned (.string (mkB (foldL c))) ∧ Below w.heap.size w w' := by
  have q0 : ¬ (65 : Int) ≤ c := by omega
  have q1 : c ≤ 90 := by omega
  have q2 : ¬ (97 : Int) ≤ c := by omega
  have q3 : c ≤ 122 := by omega
  have q4 : ¬ (48 : Int) ≤ c := by omega
  have q5 : c ≤ 57 := by omega
  have q6 : c < 0 := by omega
  have q7 : ¬ (1114111 : Int) < c := by omega
  have q8 : ¬ (55296 : Int) ≤ c := by omega
  have q9 : c < 57344 := by omega
  have q10 : ¬ (384 : Int) ≤ c := by omega
  have q11 : ¬ (8192 : Int) ≤ c := by omega
  have q12 : c ≤ 8303 := by omega
  have q13 : ¬ (12288 : Int) ≤ c := by omega
  have q14 : c ≤ 12351 := by omega
  have q15 : ¬ c = 65533 := by omega
  have q16 : ¬ c = 170 := by omega
  have q17 : ¬ c = 181 := by omega
  have q18 : ¬ c = 186 := by omega
  have q19 : ¬ c = 255 := by omega
  have q20 : ¬ (256 : Int) ≤ c := by omega
  have q21 : ¬ (224 : Int) ≤ c := by omega
  have q22 : ¬ (192 : Int) ≤ c := by omega
  have HE := Lib.hid (fold_neg h)
  clear h
  go_enter Tryd.func9, Tryd.ntmps9
  go_wp2
  go_ret
  exact ⟨by rw [HE.out]; rfl, Below.refl _ _⟩
theorem refFold_any (c : Int) (h : c ≤ 999999999999) (w : World) : Calls Tryd.prog 9 #[.int .i64 c] w fun e w' => e = .returned (.string (mkB (foldL c))) ∧ Below w.heap.size w w' := by
  by_cases h0 : c < 0
  · exact refFold_neg c h0 w
  · obtain ⟨n, rfl⟩ := Int.eq_ofNat_of_zero_le (show 0 ≤ c by omega)
    by_cases h0 : n ≤ 47
    · exact refFold_0 n (by omega) h0 _ rfl w
    by_cases h1 : n ≤ 57
    · exact refFold_1 n (by omega) h1 _ rfl w
    by_cases h2 : n ≤ 64
    · exact refFold_2 n (by omega) h2 _ rfl w
    by_cases h3 : n ≤ 90
    · exact refFold_3 n (by omega) h3 _ rfl w
    by_cases h4 : n ≤ 96
    · exact refFold_4 n (by omega) h4 _ rfl w
    by_cases h5 : n ≤ 122
    · exact refFold_5 n (by omega) h5 _ rfl w
    by_cases h6 : n ≤ 169
    · exact refFold_6 n (by omega) h6 _ rfl w
    by_cases h7 : n ≤ 170
    · exact refFold_7 n (by omega) h7 _ rfl w
    by_cases h8 : n ≤ 180
    · exact refFold_8 n (by omega) h8 _ rfl w
    by_cases h9 : n ≤ 181
    · exact refFold_9 n (by omega) h9 _ rfl w
    by_cases h10 : n ≤ 185
    · exact refFold_10 n (by omega) h10 _ rfl w
    by_cases h11 : n ≤ 186
    · exact refFold_11 n (by omega) h11 _ rfl w
    by_cases h12 : n ≤ 191
    · exact refFold_12 n (by omega) h12 _ rfl w
    by_cases h13 : n ≤ 223
    · exact refFold_13 n (by omega) h13 _ rfl w
    by_cases h14 : n ≤ 254
    · exact refFold_14 n (by omega) h14 _ rfl w
    by_cases h15 : n ≤ 255
    · exact refFold_15 n (by omega) h15 _ rfl w
    by_cases h16 : n ≤ 383
    · exact refFold_16 n (by omega) h16 _ rfl w
    by_cases h17 : n ≤ 8191
    · exact refFold_17 n (by omega) h17 _ rfl w
    by_cases h18 : n ≤ 8303
    · exact refFold_18 n (by omega) h18 _ rfl w
    by_cases h19 : n ≤ 12287
    · exact refFold_19 n (by omega) h19 _ rfl w
    by_cases h20 : n ≤ 12351
    · exact refFold_20 n (by omega) h20 _ rfl w
    by_cases h21 : n ≤ 55295
    · exact refFold_21 n (by omega) h21 _ rfl w
    by_cases h22 : n ≤ 57343
    · exact refFold_22 n (by omega) h22 _ rfl w
    by_cases h23 : n ≤ 65532
    · exact refFold_23 n (by omega) h23 _ rfl w
    by_cases h24 : n ≤ 65533
    · exact refFold_24 n (by omega) h24 _ rfl w
    by_cases h25 : n ≤ 1114111
    · exact refFold_25 n (by omega) h25 _ rfl w
    exact refFold_26 n (by omega) (by omega) _ rfl w
set_option maxRecDepth 100000 in
set_option maxHeartbeats 4000000 in
theorem refStop_any (l : List UInt8) (w : World) : Calls Tryd.prog 11 #[.string (mkB l)] w fun e w' => e = .returned (.bool (stopB l)) ∧ Below w.heap.size w w' := by
  by_cases hne : l = []
  · subst hne
    have HE := Lib.hid (show stopB [] = false by decide)
    rw [show mkB [] = (⟨#[]⟩ : ByteArray) from rfl]
    go_enter Tryd.func11, Tryd.ntmps11
    go_wp2
    go_ret
    exact ⟨by rw [HE.out]; rfl, Below.refl _ _⟩
  · have he : (mkB l).toList.isEmpty = false := by
      rw [ByteArray.toList_eq]
      unfold mkB
      cases l with
      | nil => exact absurd rfl hne
      | cons a l => rfl
    have KP := Lib.hid fun (k : Nat) (hk : k ≤ 100000) W => piece_any stopsL (by decide) k hk W
    clear hne
    go_enter Tryd.func11, Tryd.ntmps11
    go_wp2
    go_loopw [4] (fun i wr => (∃ k : Nat, k ≤ 33 ∧ i = .int .i64 k ∧ (stopL.take k).any (fun s => s == l) = false) ∧ Below w.heap.size w wr) (fun i _ => 33 - (intOf i).toNat)
    case atStart => exact ⟨⟨0, by omega, rfl, rfl⟩, Below.refl _ _⟩
    case round =>
      obtain ⟨⟨k, hk, rfl, hno⟩, hB⟩ := hrel
      have HB := Lib.hid hB
      clear hB
      by_cases hlt : k < 33
      · have hr := stops_pieces k hlt
        have k2 := KP.out k (by omega) wr
        obtain ⟨r, hr1⟩ : ∃ r, r = pieceL stopsL k [] := ⟨_, rfl⟩
        rw [← hr1] at hr k2
        have K2 := Lib.hid k2
        have hkI : (k : Int) < 33 := by omega
        have hw1 : IntKind.i64.wrap ((k : Int) + 1) = (k : Int) + 1 := IntWalk.i64_in _ (by omega)
        by_cases he2 : r = l
        · have HE := Lib.hid (stop_yes hr he2)
          have hq : ((mkB r).toList == (mkB l).toList) = true := by rw [he2]; simp
          clear hr hno k2 hr1 he2
          go_wp2_with fail
          refine (Calls.mono (R := _) K2.out ?_)
          rintro _ _ ⟨rfl, rfl⟩
          go_wp2
          go_ret
          exact ⟨by rw [HE.out]; rfl, HB.out⟩
        · have HE := Lib.hid (stop_no hr hno he2)
          have hq : ((mkB r).toList == (mkB l).toList) = false := by rw [ba_eq]; simp; exact fun h => he2 (mkB_inj h)
          clear hr hno k2 hr1 he2
          go_wp2_with fail
          refine (Calls.mono (R := _) K2.out ?_)
          rintro _ _ ⟨rfl, rfl⟩
          go_wp2
          go_roundw
          case rel =>
            exact ⟨u2, .int .i64 ((k : Int) + 1), .int .i64 (k : Int), .bool true, .int .i64 (k : Int), .int .i64 ((k : Int) + 1), .string (mkB stopsL), .int .i64 (k : Int), .string (mkB r), .string (mkB l), .bool false, ⟨⟨k + 1, by omega, rfl, HE.out⟩, HB.out⟩, rfl⟩
          case measure => simp [intOf]; omega
      · obtain rfl : k = 33 := by omega
        have HE := Lib.hid (show stopB l = false by unfold stopB; rw [← hno, List.take_of_length_le (by rw [stop_len]; omega)])
        clear hno
        go_wp2
        go_ret
        exact ⟨by rw [HE.out]; rfl, HB.out⟩
end Go.Proofs.YtoghdllppecblaaDoor
