/- The document's Code, Place; the law's awake: the walks. -/
import Derived.Test.YtiiikahpmoifaaaDoorHRef
namespace Go.Proofs.YtiiikahpmoifaaaDoor
open Go.RowKit
set_option linter.unusedVariables false

theorem mix32 (X Y : Nat) (hX : X < 18446744073709551616) (hY : Y < 18446744073709551616) (w : World) :
    Calls Tryd.prog 20 #[.int .u64 X, .int .u64 Y, .int .i64 32] w fun e w' => e = .returned (.int .u64 (mixN X Y 32 : Nat)) ∧ w = w' := mix_any X Y 32 hX hY (by omega) w
set_option maxRecDepth 100000 in
theorem refCode_any (p : Pt) (w : World) :
    Calls Tryd.prog 9 #[.agg #[.int .i64 p.x, .int .i64 p.y]] w fun e w' => e = .returned (.tuple #[.int .u64 (codeV p : Nat), .bool (mayB p)]) ∧ Below w.heap.size w w' := by
  have k0 := fun W => refMay_any p W
  by_cases h : MayP p
  · have hb := h
    unfold MayP at hb
    rw [may_yes h] at k0 ⊢
    obtain ⟨X, hX⟩ := Int.eq_ofNat_of_zero_le (show 0 ≤ p.x + 1800000000 by omega)
    obtain ⟨Y, hY⟩ := Int.eq_ofNat_of_zero_le (show 0 ≤ p.y + 900000000 by omega)
    have hc : codeV p = mixN X Y 32 := by
      unfold codeV codeN
      rw [if_pos h, hX, hY]
      rfl
    rw [hc]
    have K0 := Lib.hid k0
    have K1 := Lib.hid fun W => mix32 X Y (by omega) (by omega) W
    have e1 : p.x + 1800000000 = (X : Int) := hX
    have e2 : p.y + 900000000 = (Y : Int) := hY
    have x1 : (X : Int) ≤ 3600000000 := by omega
    have y1 : (Y : Int) ≤ 1800000000 := by omega
    clear k0 h hc hX hY
    go_enter Tryd.func9, Tryd.ntmps9
    go_wp2_with fail
    (with_reducible refine (K0.out _).mono ?_); rintro _ w1 ⟨rfl, l1⟩
    have L1 := Lib.hid (((Below.refl w.heap.size w).alloc (Nat.le_refl _) _).trans (l1.mono (by simp)))
    obtain ⟨hc, hf⟩ := bcell l1
    have c0 : w1.cell? ⟨w.heap.size, 0, none⟩ = some (.int .i64 p.x) := by go_simp
    have c1 : w1.cell? ⟨w.heap.size, 1, none⟩ = some (.int .i64 p.y) := by go_simp
    clear l1 hc hf
    go_wp2_with fail
    (with_reducible refine (K1.out _).mono ?_); rintro _ w2 ⟨rfl, l2⟩
    subst l2
    go_wp2
    exact bodyPost_ret (v := .tuple #[.int .u64 (mixN X Y 32 : Nat), .bool true]) (by simp [results, Tryd.results9, go_sem]) rfl ⟨rfl, L1.out⟩
  · rw [may_no h] at k0 ⊢
    have hc : codeV p = 0 := if_neg h
    rw [hc]
    have K0 := Lib.hid k0
    clear k0 h hc
    go_enter Tryd.func9, Tryd.ntmps9
    go_wp2_with fail
    (with_reducible refine (K0.out _).mono ?_); rintro _ w1 ⟨rfl, l1⟩
    have L1 := Lib.hid (((Below.refl w.heap.size w).alloc (Nat.le_refl _) _).trans (l1.mono (by simp)))
    clear l1
    go_wp2
    exact bodyPost_ret (v := .tuple #[.int .u64 0, .bool false]) (by simp [results, Tryd.results9, go_sem]) rfl ⟨rfl, L1.out⟩
theorem Gb_step (N k : Nat) : Gb N (k + 1) = Gb N k + N / 4 ^ k % 2 * 2 ^ k := rfl
set_option maxRecDepth 100000 in
set_option maxHeartbeats 3200000 in
theorem refPlace_any (N : Nat) (hN : N < 18446744073709551616) (w : World) :
    Calls Tryd.prog 11 #[.int .u64 N] w fun e w' => e = .returned (.tuple #[.agg #[.int .i64 (placeV N).x, .int .i64 (placeV N).y], .bool (mayB (placeP N))]) ∧ Below w.heap.size w w' := by
  have k0 := fun W => refMay_any (placeP N) W
  have g1 := Gb_lt (N / 2) 32
  have g2 := Gb_lt N 32
  have hp := place_in64 N
  have hpx : ((Gb (N / 2) 32 : Nat) : Int) - 1800000000 = (placeP N).x := rfl
  have hpy : ((Gb N 32 : Nat) : Int) - 900000000 = (placeP N).y := rfl
  have HV := Lib.hid (show placeV N = if mayB (placeP N) = true then placeP N else ⟨0, 0⟩ by unfold placeV mayB; by_cases h : MayP (placeP N) <;> simp [h])
  obtain ⟨p, hP⟩ : ∃ p, p = placeP N := ⟨_, rfl⟩
  rw [← hP] at hpx hpy k0 hp HV ⊢
  have HPX := Lib.hid hpx
  have HPY := Lib.hid hpy
  have G1 := Lib.hid g1
  have G2 := Lib.hid g2
  have HP := Lib.hid hp
  clear hP hpx hpy g1 g2 hp
  obtain ⟨v, hv⟩ : ∃ v, v = placeV N := ⟨_, rfl⟩
  rw [← hv] at HV ⊢
  clear hv
  obtain ⟨m, hm⟩ : ∃ m, m = mayB p := ⟨_, rfl⟩
  rw [← hm] at HV k0 ⊢
  clear hm
  have K0 := Lib.hid k0
  clear k0
  go_enter Tryd.func11, Tryd.ntmps11
  go_wp2
  go_loop [0, 4, 5, 6, 7] (fun n x y b i => ∃ k : Nat, k ≤ 32 ∧ i = .int .i64 k ∧ n = .int .u64 (N / 4 ^ k : Nat) ∧ x = .int .i64 (Gb (N / 2) k : Nat) ∧ y = .int .i64 (Gb N k : Nat) ∧ b = .int .i64 (2 ^ k : Nat)) (fun _ _ _ _ i => 32 - (intOf i).toNat)
  case atStart => exact ⟨0, by omega, rfl, by simp, by simp [Gb], by simp [Gb], by simp⟩
  case round =>
    obtain ⟨k, hk, rfl, rfl, rfl, rfl, rfl⟩ := hrel
    by_cases hlt : k < 32
    · have hB : 2 ^ k ≤ 2147483648 := by
        have : (2 : Nat) ^ k ≤ 2 ^ 31 := Nat.pow_le_pow_right (by omega) (by omega)
        omega
      have hx := Gb_lt (N / 2) k
      have hy := Gb_lt N k
      have EX := Lib.hid (Gb_step (N / 2) k)
      have EY := Lib.hid (Gb_step N k)
      have HB := Lib.hid (show (2 : Nat) ^ (k + 1) = 2 ^ k * 2 from Nat.pow_succ ..)
      have HN := Lib.hid (show N / 4 ^ (k + 1) = N / 4 ^ k / 2 / 2 by rw [Nat.pow_succ, ← Nat.div_div_eq_div_mul]; omega)
      have HX := Lib.hid (show N / 2 / 4 ^ k = N / 4 ^ k / 2 by rw [Nat.div_div_eq_div_mul, Nat.div_div_eq_div_mul, Nat.mul_comm])
      rw [HX.out] at EX
      clear HX
      have hn : N / 4 ^ k < 18446744073709551616 := Nat.lt_of_le_of_lt (Nat.div_le_self _ _) hN
      obtain ⟨n, en⟩ : ∃ n, n = N / 4 ^ k := ⟨_, rfl⟩
      obtain ⟨B, eB⟩ : ∃ B, B = 2 ^ k := ⟨_, rfl⟩
      obtain ⟨x, ex⟩ : ∃ x, x = Gb (N / 2) k := ⟨_, rfl⟩
      obtain ⟨y, ey⟩ : ∃ y, y = Gb N k := ⟨_, rfl⟩
      rw [← en] at EX EY HN hn ⊢
      rw [← eB] at EX EY HB hB hx hy ⊢
      rw [← ex] at EX hx ⊢
      rw [← ey] at EY hy ⊢
      clear en eB ex ey
      have hn2 : (n : Int) / 2 = ((n / 2 : Nat) : Int) := by omega
      have hn3 : ((n / 2 : Nat) : Int) / 2 = ((n / 2 / 2 : Nat) : Int) := by omega
      have a1 : n % 2 = 0 ∨ n % 2 = 1 := by omega
      have a2 : n / 2 % 2 = 0 ∨ n / 2 % 2 = 1 := by omega
      obtain ⟨n2, en2⟩ : ∃ n2, n2 = n / 2 := ⟨_, rfl⟩
      rw [← en2] at hn2 hn3 a2 EX HN
      have hn2b : n2 < 18446744073709551616 := by omega
      obtain ⟨n3, en3⟩ : ∃ n3, n3 = n2 / 2 := ⟨_, rfl⟩
      rw [← en3] at hn3 HN
      clear en2 en3
      obtain ⟨x1, hx1⟩ : ∃ x1 : Nat, x1 = Gb (N / 2) (k + 1) := ⟨_, rfl⟩
      obtain ⟨y1, hy1⟩ : ∃ y1 : Nat, y1 = Gb N (k + 1) := ⟨_, rfl⟩
      rw [← hx1] at EX
      rw [← hy1] at EY
      have HX := Lib.hid hx1
      have HY := Lib.hid hy1
      clear hx1 hy1
      rcases a2 with a2 | a2 <;> rcases a1 with a1 | a1
      · have fx := EX.out
        have fy := EY.out
        rw [a2] at fx
        rw [a1] at fy
        have e1 : (x : Int) = x1 := by omega
        have e2 : (y : Int) = y1 := by omega
        have c1 : (n : Int) % 2 = 0 := by omega
        have c2 : (n2 : Int) % 2 = 0 := by omega
        clear a1 a2 fx fy EX EY
        go_wp2
        exact ⟨⟨k + 1, by omega, by go_num, by rw [HN.out], by rw [HX.out], by rw [HY.out], by rw [HB.out]; go_num⟩, by simp [intOf]; omega⟩
      · have fx := EX.out
        have fy := EY.out
        rw [a2] at fx
        rw [a1] at fy
        have e1 : (x : Int) = x1 := by omega
        have e2 : (y : Int) + B = y1 := by omega
        have c1 : (n : Int) % 2 = 1 := by omega
        have c2 : (n2 : Int) % 2 = 0 := by omega
        clear a1 a2 fx fy EX EY
        go_wp2
        exact ⟨⟨k + 1, by omega, by go_num, by rw [HN.out], by rw [HX.out], by rw [HY.out], by rw [HB.out]; go_num⟩, by simp [intOf]; omega⟩
      · have fx := EX.out
        have fy := EY.out
        rw [a2] at fx
        rw [a1] at fy
        have e1 : (x : Int) + B = x1 := by omega
        have e2 : (y : Int) = y1 := by omega
        have c1 : (n : Int) % 2 = 0 := by omega
        have c2 : (n2 : Int) % 2 = 1 := by omega
        clear a1 a2 fx fy EX EY
        go_wp2
        exact ⟨⟨k + 1, by omega, by go_num, by rw [HN.out], by rw [HX.out], by rw [HY.out], by rw [HB.out]; go_num⟩, by simp [intOf]; omega⟩
      · have fx := EX.out
        have fy := EY.out
        rw [a2] at fx
        rw [a1] at fy
        have e1 : (x : Int) + B = x1 := by omega
        have e2 : (y : Int) + B = y1 := by omega
        have c1 : (n : Int) % 2 = 1 := by omega
        have c2 : (n2 : Int) % 2 = 1 := by omega
        clear a1 a2 fx fy EX EY
        go_wp2
        exact ⟨⟨k + 1, by omega, by go_num, by rw [HN.out], by rw [HX.out], by rw [HY.out], by rw [HB.out]; go_num⟩, by simp [intOf]; omega⟩
    · obtain rfl : k = 32 := by omega
      have g1 := G1.out
      have g2 := G2.out
      have hpx := HPX.out
      have hpy := HPY.out
      obtain ⟨hp1, hp2, hp3, hp4⟩ := HP.out
      obtain ⟨gx, ex⟩ : ∃ x, x = Gb (N / 2) 32 := ⟨_, rfl⟩
      obtain ⟨gy, ey⟩ : ∃ x, x = Gb N 32 := ⟨_, rfl⟩
      rw [← ex] at g1 hpx ⊢
      rw [← ey] at g2 hpy ⊢
      clear hk hlt ex ey
      cases m
      · have hv : v = ⟨0, 0⟩ := HV.out
        subst hv
        go_wp2_with fail
        (with_reducible refine (K0.out _).mono ?_); rintro _ w3 ⟨rfl, l3⟩
        obtain ⟨hc3, hf3⟩ := bcell l3
        have hz3 : w.heap.size + 1 < w3.heap.size := by have := l3.size; simp at this; omega
        have L3 := Lib.hid ((((Below.refl w.heap.size w).alloc (Nat.le_refl _) _).alloc (by simp) _).trans (l3.mono (by simp; omega)))
        have d0 : w3.cell? ⟨w.heap.size, 0, none⟩ = some (.int .i64 0) := by go_simp
        have d1 : w3.cell? ⟨w.heap.size, 1, none⟩ = some (.int .i64 0) := by go_simp
        clear l3
        go_wp2
        exact bodyPost_ret (v := .tuple #[.agg #[.int .i64 0, .int .i64 0], .bool false]) (by simp [results, Tryd.results11, go_sem, d0, d1]) rfl ⟨rfl, (L3.out.setCell (by simp) _).setCell (by simp) _⟩
      · have hv : v = p := HV.out
        subst hv
        go_wp2_with fail
        (with_reducible refine (K0.out _).mono ?_); rintro _ w3 ⟨rfl, l3⟩
        obtain ⟨hc3, hf3⟩ := bcell l3
        have hz3 : w.heap.size + 1 < w3.heap.size := by have := l3.size; simp at this; omega
        have L3 := Lib.hid ((((Below.refl w.heap.size w).alloc (Nat.le_refl _) _).alloc (by simp) _).trans (l3.mono (by simp; omega)))
        have d0 : w3.cell? ⟨w.heap.size, 0, none⟩ = some (.int .i64 0) := by go_simp
        have d1 : w3.cell? ⟨w.heap.size, 1, none⟩ = some (.int .i64 0) := by go_simp
        clear l3
        go_wp2
        exact bodyPost_ret (v := .tuple #[.agg #[.int .i64 v.x, .int .i64 v.y], .bool true]) (by simp [results, Tryd.results11, go_sem, d0, d1]) rfl ⟨rfl, (L3.out.setCell (by simp) _).setCell (by simp) _⟩
theorem aw_a (w : World) (hm : MaskT w) : Calls Tryd.prog 8 #[.agg #[.int .i64 (-1800000000), .int .i64 (-900000000)]] w fun e w' => e = .returned (.tuple #[.int .u64 0, .bool true]) ∧ Below w.heap.size w w' := by
  have h := code_any ⟨-1800000000, -900000000⟩ w hm
  rwa [show codeV ⟨-1800000000, -900000000⟩ = 0 by decide +kernel, show mayB ⟨-1800000000, -900000000⟩ = true by decide +kernel] at h
theorem aw_b (w : World) (hm : MaskT w) : Calls Tryd.prog 8 #[.agg #[.int .i64 (-1799999999), .int .i64 (-900000000)]] w fun e w' => e = .returned (.tuple #[.int .u64 2, .bool true]) ∧ Below w.heap.size w w' := by
  have h := code_any ⟨-1799999999, -900000000⟩ w hm
  rwa [show codeV ⟨-1799999999, -900000000⟩ = 2 by decide +kernel, show mayB ⟨-1799999999, -900000000⟩ = true by decide +kernel] at h
theorem aw_c (w : World) (hm : MaskT w) : Calls Tryd.prog 8 #[.agg #[.int .i64 (-1800000000), .int .i64 (-899999999)]] w fun e w' => e = .returned (.tuple #[.int .u64 1, .bool true]) ∧ Below w.heap.size w w' := by
  have h := code_any ⟨-1800000000, -899999999⟩ w hm
  rwa [show codeV ⟨-1800000000, -899999999⟩ = 1 by decide +kernel, show mayB ⟨-1800000000, -899999999⟩ = true by decide +kernel] at h
theorem awake_any (w : World) (hm : MaskT w) : Calls Tryd.prog 12 #[] w fun e w' => e = .returned (.bool true) ∧ Below w.heap.size w w' := by
  have HM := Lib.hid hm
  have K1 := Lib.hid aw_a
  have K2 := Lib.hid aw_b
  have K3 := Lib.hid aw_c
  clear hm
  go_enter Tryd.func12, Tryd.ntmps12
  go_wp2_with fail
  (with_reducible refine (K1.out _ HM.out).mono ?_); rintro _ w1 ⟨rfl, l1⟩
  have L1 := Lib.hid l1
  clear l1
  go_wp2_with fail
  (with_reducible refine (K2.out _ (HM.out.below L1.out)).mono ?_); rintro _ w2 ⟨rfl, l2⟩
  have L2 := Lib.hid (below2' L1.out l2)
  clear l2
  go_wp2_with fail
  (with_reducible refine (K3.out _ (HM.out.below L2.out)).mono ?_); rintro _ w3 ⟨rfl, l3⟩
  have L3 := Lib.hid (below2' L2.out l3)
  clear l3
  go_wp2
  go_ret
  exact ⟨rfl, L3.out⟩
end Go.Proofs.YtiiikahpmoifaaaDoor
