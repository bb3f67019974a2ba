/- The document's mix, Code, Place; the law's awake: the walks. -/
import Derived.Test.YtihigingddaopaaDoorHCode
namespace Go.Proofs.YtihigingddaopaaDoor
open Go.RowKit
set_option linter.unusedVariables false

theorem pow4_le (k : Nat) (h : k ≤ 31) : 4 ^ k ≤ 4611686018427387904 := by
  have : (4 : Nat) ^ k ≤ 4 ^ 31 := Nat.pow_le_pow_right (by omega) h
  omega
set_option maxRecDepth 100000 in
set_option maxHeartbeats 1600000 in
theorem mix_any (X Y d : Nat) (hX : X < 18446744073709551616) (hY : Y < 18446744073709551616) (hd : d ≤ 32) (w : World) :
    Calls Tryd.prog 17 #[.int .u64 X, .int .u64 Y, .int .i64 d] w fun e w' => e = .returned (.int .u64 (mixN X Y d : Nat)) ∧ w = w' := by
  go_enter Tryd.func17, Tryd.ntmps17
  go_wp2
  go_loop [0, 1, 7, 8, 9] (fun x y out b i => ∃ k : Nat, k ≤ d ∧ i = .int .i64 k ∧ x = .int .u64 (X / 2 ^ k : Nat) ∧ y = .int .u64 (Y / 2 ^ k : Nat) ∧ out = .int .u64 (mixN X Y k : Nat) ∧ b = .int .u64 (4 ^ k % 18446744073709551616 : Nat)) (fun _ _ _ _ i => d - (intOf i).toNat)
  case atStart => exact ⟨0, by omega, rfl, by simp, by simp, by simp [mixN, Sb], by simp⟩
  case round =>
    obtain ⟨k, hk, rfl, rfl, rfl, rfl, rfl⟩ := hrel
    by_cases hlt : k < d
    · have hB := pow4_le k (by omega)
      have hO := mix_lt X Y k
      have hmod : 4 ^ k % 18446744073709551616 = 4 ^ k := Nat.mod_eq_of_lt (by omega)
      rw [hmod]
      have HO := Lib.hid (mix_top X Y k)
      have HB := Lib.hid (show (4 : Nat) ^ (k + 1) % 18446744073709551616 = 4 * 4 ^ k % 18446744073709551616 by rw [Nat.pow_succ, Nat.mul_comm])
      have HX := Lib.hid (show X / 2 ^ (k + 1) = X / 2 ^ k / 2 by rw [Nat.pow_succ, Nat.div_div_eq_div_mul])
      have HY := Lib.hid (show Y / 2 ^ (k + 1) = Y / 2 ^ k / 2 by rw [Nat.pow_succ, Nat.div_div_eq_div_mul])
      have HP := Lib.hid (pow4 k)
      have hx : X / 2 ^ k < 18446744073709551616 := Nat.lt_of_le_of_lt (Nat.div_le_self _ _) hX
      have hy : Y / 2 ^ k < 18446744073709551616 := Nat.lt_of_le_of_lt (Nat.div_le_self _ _) hY
      clear hmod
      obtain ⟨x, ex⟩ : ∃ x, x = X / 2 ^ k := ⟨_, rfl⟩
      obtain ⟨y, ey⟩ : ∃ y, y = Y / 2 ^ k := ⟨_, rfl⟩
      obtain ⟨B, eB⟩ : ∃ B, B = 4 ^ k := ⟨_, rfl⟩
      obtain ⟨O, eO⟩ : ∃ O, O = mixN X Y k := ⟨_, rfl⟩
      rw [← ex] at HO HX hx ⊢
      rw [← ey] at HO HY hy ⊢
      rw [← eB] at HB HP hO hB ⊢
      rw [← eO] at HO hO ⊢
      clear ex ey eB eO
      have hx2 : (x : Int) / 2 = ((x / 2 : Nat) : Int) := by omega
      have hy2 : (y : Int) / 2 = ((y / 2 : Nat) : Int) := by omega
      obtain ⟨xh, exh⟩ : ∃ xh, xh = x / 2 := ⟨_, rfl⟩
      obtain ⟨yh, eyh⟩ : ∃ yh, yh = y / 2 := ⟨_, rfl⟩
      rw [← exh] at HX hx2
      rw [← eyh] at HY hy2
      clear exh eyh
      have hx3 : x % 2 = 0 ∨ x % 2 = 1 := by omega
      have hy3 : y % 2 = 0 ∨ y % 2 = 1 := by omega
      obtain ⟨o1, ho1⟩ : ∃ o1 : Nat, o1 = mixN X Y (k + 1) := ⟨_, rfl⟩
      obtain ⟨b1, hb1⟩ : ∃ b1 : Nat, b1 = 4 * B % 18446744073709551616 := ⟨_, rfl⟩
      rw [← ho1] at HO
      rw [← hb1] at HB
      have hw : IntKind.u64.wrap (IntKind.u64.wrap ((B : Int) * 2) * 2) = (b1 : Int) := by rw [IntKind.wrap_u64, IntKind.wrap_u64]; omega
      have hw1 : IntKind.u64.wrap ((B : Int) * 2 * 2) = (b1 : Int) := by rw [IntKind.wrap_u64]; omega
      rcases hx3 with hx3 | hx3 <;> rcases hy3 with hy3 | hy3
      · have e := HO.out
        rw [hx3, hy3, ← HP.out] at e
        have e1 : (O : Int) = o1 := by omega
        have hx4 : (x : Int) % 2 = 0 := by omega
        have hy4 : (y : Int) % 2 = 0 := by omega
        have HOO := Lib.hid ho1
        clear hx3 hy3 e ho1 hb1
        go_wp2
        exact ⟨⟨k + 1, by omega, by go_num, by rw [HX.out], by rw [HY.out], by rw [HOO.out], by rw [HB.out]⟩, by simp [intOf]; omega⟩
      · have e := HO.out
        rw [hx3, hy3, ← HP.out] at e
        have e1 : (O : Int) + B = o1 := by omega
        have hx4 : (x : Int) % 2 = 0 := by omega
        have hy4 : (y : Int) % 2 = 1 := by omega
        have HOO := Lib.hid ho1
        clear hx3 hy3 e ho1 hb1
        go_wp2
        exact ⟨⟨k + 1, by omega, by go_num, by rw [HX.out], by rw [HY.out], by rw [HOO.out], by rw [HB.out]⟩, by simp [intOf]; omega⟩
      · have e := HO.out
        rw [hx3, hy3, ← HP.out] at e
        have e1 : (O : Int) + B * 2 = o1 := by omega
        have hx4 : (x : Int) % 2 = 1 := by omega
        have hy4 : (y : Int) % 2 = 0 := by omega
        have HOO := Lib.hid ho1
        clear hx3 hy3 e ho1 hb1
        go_wp2
        exact ⟨⟨k + 1, by omega, by go_num, by rw [HX.out], by rw [HY.out], by rw [HOO.out], by rw [HB.out]⟩, by simp [intOf]; omega⟩
      · have e := HO.out
        rw [hx3, hy3, ← HP.out] at e
        have e1 : (O : Int) + B + B * 2 = o1 := by omega
        have hx4 : (x : Int) % 2 = 1 := by omega
        have hy4 : (y : Int) % 2 = 1 := by omega
        have HOO := Lib.hid ho1
        clear hx3 hy3 e ho1 hb1
        go_wp2
        exact ⟨⟨k + 1, by omega, by go_num, by rw [HX.out], by rw [HY.out], by rw [HOO.out], by rw [HB.out]⟩, by simp [intOf]; omega⟩
    · go_wp2
      obtain rfl : k = d := by omega
      go_ret
      exact ⟨rfl, rfl⟩
end Go.Proofs.YtihigingddaopaaDoor
