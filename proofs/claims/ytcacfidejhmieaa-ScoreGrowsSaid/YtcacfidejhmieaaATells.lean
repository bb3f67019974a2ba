/- score's weights, shares, scores: for all numbers. -/
import Derived.Test.YtcacfidejhmieaaALog
import Derived.Deep.RegionHeld3
namespace Go.Proofs.Ytcacfidejhmieaa
open Go.RowKit
set_option linter.unusedVariables false
set_option linter.unusedSimpArgs false

open Go.Shelf
attribute [local go_sem] Oper.semAt_some
def knownB (T df : Int) : Bool := decide (1 ≤ T ∧ T ≤ 4294967296 ∧ 1 ≤ df ∧ df ≤ T)
def countedB (T L tf len : Int) : Bool := decide (1 ≤ T ∧ T ≤ 4294967296 ∧ 0 ≤ L ∧ L ≤ 4503599627370496 ∧ 1 ≤ tf ∧ tf ≤ 1048576 ∧ tf ≤ len ∧ len ≤ 1048576)
def weightV (T df : Int) : Int := if knownB T df = true then 1 + (logN ((T + df) / df).toNat : Nat) else 0
def shareV (T L tf len : Int) : Int := if countedB T L tf len = true then 1 + 2200000 * tf / (1000 * tf + 300 + 900 * len * T / max L 1) else 0
theorem known_yes {T df : Int} (h : knownB T df = true) : 1 ≤ T ∧ T ≤ 4294967296 ∧ 1 ≤ df ∧ df ≤ T := of_decide_eq_true h
theorem counted_yes {T L tf len : Int} (h : countedB T L tf len = true) : 1 ≤ T ∧ T ≤ 4294967296 ∧ 0 ≤ L ∧ L ≤ 4503599627370496 ∧ 1 ≤ tf ∧ tf ≤ 1048576 ∧ tf ≤ len ∧ len ≤ 1048576 := of_decide_eq_true h
theorem within_yes (n a b : Int) (w : World) (h1 : a ≤ n) (h2 : n ≤ b) : Calls Try.prog 26 #[.int .i64 n, .int .i64 a, .int .i64 b] w fun e w' => e = .returned (.bool true) ∧ w = w' := by
  go_enter Try.func26, Try.ntmps26
  go_wp2
  go_ret
  exact ⟨rfl, rfl⟩
theorem within_no (n a b : Int) (w : World) (h1 : n < a ∨ b < n) : Calls Try.prog 26 #[.int .i64 n, .int .i64 a, .int .i64 b] w fun e w' => e = .returned (.bool false) ∧ w = w' := by
  by_cases h : n < a
  · have hd : decide (a ≤ n) = false := decide_eq_false (by omega)
    clear h h1
    go_enter Try.func26, Try.ntmps26
    go_wp2
    go_ret
    exact ⟨rfl, rfl⟩
  · have hd : decide (n ≤ b) = false := decide_eq_false (by omega)
    have he : decide (a ≤ n) = true := decide_eq_true (by omega)
    clear h h1
    go_enter Try.func26, Try.ntmps26
    go_wp2
    go_ret
    exact ⟨rfl, rfl⟩
def NoIn (n a b : Int) : Prop := n < a ∨ b < n
theorem noIn {n a b : Int} (h : ¬ (a ≤ n ∧ n ≤ b)) : NoIn n a b := by unfold NoIn; omega
set_option maxHeartbeats 4000000 in
theorem mayCount_any (T L df : Int) (w : World) : Calls Try.prog 22 #[.agg #[.int .i64 T, .int .i64 L], .int .i64 df] w fun e w' => e = .returned (.bool (knownB T df)) ∧ Below w.heap.size w w' := by
  by_cases h1 : 1 ≤ T ∧ T ≤ 4294967296
  · obtain ⟨a1, a2⟩ := h1
    have C1 := Lib.hid (within_yes T 1 4294967296 · a1 a2)
    by_cases h2 : 1 ≤ df ∧ df ≤ T
    · obtain ⟨a3, a4⟩ := h2
      have C2 := Lib.hid (within_yes df 1 T · a3 a4)
      have HK := Lib.hid (show knownB T df = true from decide_eq_true ⟨a1, a2, a3, a4⟩)
      clear a1 a2 a3 a4
      go_enter Try.func22, Try.ntmps22
      go_wp2_with (first
        | (go_at_call 26; (with_reducible refine (C1.out _).mono ?_); rintro e w' ⟨rfl, rfl⟩)
        | (go_at_call 26; (with_reducible refine (C2.out _).mono ?_); rintro e w' ⟨rfl, rfl⟩))
      go_ret
      exact ⟨ret_b HK.out.symm, (Below.refl _ _).alloc (Nat.le_refl _) _⟩
    · have C2 := Lib.hid (within_no df 1 T · (noIn h2))
      have HK := Lib.hid (show knownB T df = false from decide_eq_false fun h => h2 h.2.2)
      clear a1 a2 h2
      go_enter Try.func22, Try.ntmps22
      go_wp2_with (first
        | (go_at_call 26; (with_reducible refine (C1.out _).mono ?_); rintro e w' ⟨rfl, rfl⟩)
        | (go_at_call 26; (with_reducible refine (C2.out _).mono ?_); rintro e w' ⟨rfl, rfl⟩))
      go_ret
      exact ⟨ret_b HK.out.symm, (Below.refl _ _).alloc (Nat.le_refl _) _⟩
  · have C1 := Lib.hid (within_no T 1 4294967296 · (noIn h1))
    have HK := Lib.hid (show knownB T df = false from decide_eq_false fun h => h1 ⟨h.1, h.2.1⟩)
    clear h1
    go_enter Try.func22, Try.ntmps22
    go_wp2_with (first
      | (go_at_call 26; (with_reducible refine (C1.out _).mono ?_); rintro e w' ⟨rfl, rfl⟩))
    go_ret
    exact ⟨ret_b HK.out.symm, (Below.refl _ _).alloc (Nat.le_refl _) _⟩
set_option maxHeartbeats 4000000 in
theorem mayHave_any (T L tf len : Int) (w : World) : Calls Try.prog 23 #[.agg #[.int .i64 T, .int .i64 L], .int .i64 tf, .int .i64 len] w fun e w' => e = .returned (.bool (countedB T L tf len)) ∧ Below w.heap.size w w' := by
  by_cases h1 : 1 ≤ T ∧ T ≤ 4294967296
  · obtain ⟨a1, b1⟩ := h1
    have C1 := Lib.hid (within_yes T 1 4294967296 · a1 b1)
    by_cases h2 : 0 ≤ L ∧ L ≤ 4503599627370496
    · obtain ⟨a2, b2⟩ := h2
      have C2 := Lib.hid (within_yes L 0 4503599627370496 · a2 b2)
      by_cases h3 : 1 ≤ tf ∧ tf ≤ 1048576
      · obtain ⟨a3, b3⟩ := h3
        have C3 := Lib.hid (within_yes tf 1 1048576 · a3 b3)
        by_cases h4 : tf ≤ len ∧ len ≤ 1048576
        · obtain ⟨a4, b4⟩ := h4
          have C4 := Lib.hid (within_yes len tf 1048576 · a4 b4)
          have HK := Lib.hid (show countedB T L tf len = true from decide_eq_true ⟨a1, b1, a2, b2, a3, b3, a4, b4⟩)
          clear a1 b1 a2 b2 a3 b3 a4 b4
          go_enter Try.func23, Try.ntmps23
          go_wp2_with (first
            | (go_at_call 26; (with_reducible refine (C1.out _).mono ?_); rintro e w' ⟨rfl, rfl⟩)
            | (go_at_call 26; (with_reducible refine (C2.out _).mono ?_); rintro e w' ⟨rfl, rfl⟩)
            | (go_at_call 26; (with_reducible refine (C3.out _).mono ?_); rintro e w' ⟨rfl, rfl⟩)
            | (go_at_call 26; (with_reducible refine (C4.out _).mono ?_); rintro e w' ⟨rfl, rfl⟩))
          go_ret
          exact ⟨ret_b HK.out.symm, (Below.refl _ _).alloc (Nat.le_refl _) _⟩
        · have C4 := Lib.hid (within_no len tf 1048576 · (noIn h4))
          have HK := Lib.hid (show countedB T L tf len = false from decide_eq_false fun h => h4 ⟨h.2.2.2.2.2.2.1, h.2.2.2.2.2.2.2⟩)
          clear h4 a1 b1 a2 b2 a3 b3
          go_enter Try.func23, Try.ntmps23
          go_wp2_with (first
            | (go_at_call 26; (with_reducible refine (C1.out _).mono ?_); rintro e w' ⟨rfl, rfl⟩)
            | (go_at_call 26; (with_reducible refine (C2.out _).mono ?_); rintro e w' ⟨rfl, rfl⟩)
            | (go_at_call 26; (with_reducible refine (C3.out _).mono ?_); rintro e w' ⟨rfl, rfl⟩)
            | (go_at_call 26; (with_reducible refine (C4.out _).mono ?_); rintro e w' ⟨rfl, rfl⟩))
          go_ret
          exact ⟨ret_b HK.out.symm, (Below.refl _ _).alloc (Nat.le_refl _) _⟩
      · have C3 := Lib.hid (within_no tf 1 1048576 · (noIn h3))
        have HK := Lib.hid (show countedB T L tf len = false from decide_eq_false fun h => h3 ⟨h.2.2.2.2.1, h.2.2.2.2.2.1⟩)
        clear h3 a1 b1 a2 b2
        go_enter Try.func23, Try.ntmps23
        go_wp2_with (first
          | (go_at_call 26; (with_reducible refine (C1.out _).mono ?_); rintro e w' ⟨rfl, rfl⟩)
          | (go_at_call 26; (with_reducible refine (C2.out _).mono ?_); rintro e w' ⟨rfl, rfl⟩)
          | (go_at_call 26; (with_reducible refine (C3.out _).mono ?_); rintro e w' ⟨rfl, rfl⟩))
        go_ret
        exact ⟨ret_b HK.out.symm, (Below.refl _ _).alloc (Nat.le_refl _) _⟩
    · have C2 := Lib.hid (within_no L 0 4503599627370496 · (noIn h2))
      have HK := Lib.hid (show countedB T L tf len = false from decide_eq_false fun h => h2 ⟨h.2.2.1, h.2.2.2.1⟩)
      clear h2 a1 b1
      go_enter Try.func23, Try.ntmps23
      go_wp2_with (first
        | (go_at_call 26; (with_reducible refine (C1.out _).mono ?_); rintro e w' ⟨rfl, rfl⟩)
        | (go_at_call 26; (with_reducible refine (C2.out _).mono ?_); rintro e w' ⟨rfl, rfl⟩))
      go_ret
      exact ⟨ret_b HK.out.symm, (Below.refl _ _).alloc (Nat.le_refl _) _⟩
  · have C1 := Lib.hid (within_no T 1 4294967296 · (noIn h1))
    have HK := Lib.hid (show countedB T L tf len = false from decide_eq_false fun h => h1 ⟨h.1, h.2.1⟩)
    clear h1
    go_enter Try.func23, Try.ntmps23
    go_wp2_with (first
      | (go_at_call 26; (with_reducible refine (C1.out _).mono ?_); rintro e w' ⟨rfl, rfl⟩))
    go_ret
    exact ⟨ret_b HK.out.symm, (Below.refl _ _).alloc (Nat.le_refl _) _⟩
theorem mayCount_is {T df : Int} {v : Bool} (h : knownB T df = v) (L : Int) (w : World) : Calls Try.prog 22 #[.agg #[.int .i64 T, .int .i64 L], .int .i64 df] w fun e w' => e = .returned (.bool v) ∧ Below w.heap.size w w' := by
  rw [← h]; exact mayCount_any T L df w
theorem mayHave_is {T L tf len : Int} {v : Bool} (h : countedB T L tf len = v) (w : World) : Calls Try.prog 23 #[.agg #[.int .i64 T, .int .i64 L], .int .i64 tf, .int .i64 len] w fun e w' => e = .returned (.bool v) ∧ Below w.heap.size w w' := by
  rw [← h]; exact mayHave_any T L tf len w
theorem logI {n : Int} (h0 : 0 ≤ n) (h1 : n < 18446744073709551616) (w : World) : Calls Try.prog 8 #[.int .u64 n] w fun e w' => e = .returned (.int .i64 (logN n.toNat : Nat)) ∧ Below w.heap.size w w' := by
  have h := log_any n.toNat (by omega) w
  rwa [Int.toNat_of_nonneg h0] at h
theorem cell_in {w : World} {b o : Nat} {v : Value} (h : w.cell? ⟨b, o, none⟩ = some v) : b < w.heap.size := by
  rcases Nat.lt_or_ge b w.heap.size with hlt | hge
  · exact hlt
  · rw [World.cell?, Array.getElem?_eq_none hge] at h
    cases h
theorem bcell {W w1 : World} (hb : Below W.heap.size W w1) {b o : Nat} {v : Value} (h : W.cell? ⟨b, o, none⟩ = some v) (hlt : b < W.heap.size) : w1.cell? ⟨b, o, none⟩ = some v := (hb.cell (p := ⟨b, o, none⟩) hlt).trans h
set_option maxHeartbeats 4000000 in
theorem weight_no {T df : Int} (hk : knownB T df = false) (L : Int) (w : World) : Calls Try.prog 15 #[.agg #[.int .i64 T, .int .i64 L], .int .i64 df] w fun e w' => e = .returned (.int .i64 (weightV T df)) ∧ Below w.heap.size w w' := by
  have HV := Lib.hid (show weightV T df = 0 by unfold weightV; rw [if_neg (by rw [hk]; simp)])
  have HC := Lib.hid (mayCount_is hk L)
  clear hk
  go_enter Try.func15, Try.ntmps15
  go_wp2_with (go_at_call 22; (with_reducible refine (HC.out _).mono ?_); rintro e w' ⟨rfl, hb1⟩; have HB1 := Lib.hid hb1; clear hb1)
  go_ret
  exact ⟨ret_i HV.out.symm, ((Below.refl _ _).alloc (Nat.le_refl _) _).trans (HB1.out.mono (by simp))⟩
set_option maxHeartbeats 4000000 in
theorem weight_yes {T df : Int} (hk : knownB T df = true) (L : Int) (w : World) : Calls Try.prog 15 #[.agg #[.int .i64 T, .int .i64 L], .int .i64 df] w fun e w' => e = .returned (.int .i64 (weightV T df)) ∧ Below w.heap.size w w' := by
  have HV := Lib.hid (show weightV T df = 1 + (logN ((T + df) / df).toNat : Nat) by unfold weightV; rw [if_pos hk])
  have HC := Lib.hid (mayCount_is hk L)
  obtain ⟨a1, a2, a3, a4⟩ := known_yes hk
  have q0 : 0 ≤ (T + df) / df := Int.ediv_nonneg (by omega) (by omega)
  have q1 : (T + df) / df ≤ 8589934592 := Int.le_trans (Int.ediv_le_self _ (by omega)) (by omega)
  have hl := logI q0 (by omega)
  have hm1 := log_lt (n := ((T + df) / df).toNat) (k := 34) (by omega) (by omega)
  generalize logN ((T + df) / df).toNat = m at *
  have HL := Lib.hid hl
  clear hk hl
  go_enter Try.func15, Try.ntmps15
  go_wp2_with (go_at_call 22; (with_reducible refine (HC.out _).mono ?_); rintro e w1 ⟨rfl, hb1⟩; have hc := bcell hb1 (b := w.heap.size) (o := 0) (v := .int .i64 T) (by go_simp) (by simp); have HB1 := Lib.hid hb1; clear hb1)
  go_wp2_with (go_at_call 8; (with_reducible refine (HL.out _).mono ?_); rintro e w2 ⟨rfl, hb2⟩; have HB2 := Lib.hid hb2; clear hb2)
  go_ret
  exact ⟨ret_i HV.out.symm, (((Below.refl _ _).alloc (Nat.le_refl _) _).trans (HB1.out.mono (by simp))).trans (HB2.out.mono (by have := HB1.out.size; simp at this; omega))⟩
theorem weight_any (T L df : Int) (w : World) : Calls Try.prog 15 #[.agg #[.int .i64 T, .int .i64 L], .int .i64 df] w fun e w' => e = .returned (.int .i64 (weightV T df)) ∧ Below w.heap.size w w' := by
  cases hk : knownB T df with
  | true => exact weight_yes hk L w
  | false => exact weight_no hk L w
theorem weight_bd (T df : Int) : 0 ≤ weightV T df ∧ weightV T df ≤ 8705 := by
  unfold weightV
  split
  · rename_i hk
    obtain ⟨a1, a2, a3, a4⟩ := known_yes hk
    have q1 : (T + df) / df ≤ 8589934592 := Int.le_trans (Int.ediv_le_self _ (by omega)) (by omega)
    have hm1 := log_lt (n := ((T + df) / df).toNat) (k := 34) (by omega) (by omega)
    omega
  · omega
/-- What a share's quotient is made of. -/
theorem share_parts {T L tf len : Int} (h : countedB T L tf len = true) : 0 ≤ 900 * len * T ∧ 900 * len * T ≤ 4053239664633446400 ∧ 1 ≤ max L 1 ∧ 0 ≤ 900 * len * T / max L 1 ∧ 900 * len * T / max L 1 ≤ 4053239664633446400 := by
  obtain ⟨a1, a2, a3, a4, a5, a6, a7, a8⟩ := counted_yes h
  have h1 : 0 ≤ 900 * len * T := Int.mul_nonneg (by omega) (by omega)
  have h2 : 900 * len * T ≤ 943718400 * 4294967296 := Int.mul_le_mul (by omega) a2 (by omega) (by omega)
  have h3 : 1 ≤ max L 1 := by omega
  exact ⟨h1, by omega, h3, Int.ediv_nonneg h1 (by omega), Int.le_trans (Int.ediv_le_self _ h1) (by omega)⟩
theorem share_bd (T L tf len : Int) : 0 ≤ shareV T L tf len ∧ shareV T L tf len ≤ 2200001 * 1048576 := by
  unfold shareV
  split
  · rename_i hk
    obtain ⟨a1, a2, a3, a4, a5, a6, a7, a8⟩ := counted_yes hk
    obtain ⟨b1, b2, b3, b4, b5⟩ := share_parts hk
    generalize 900 * len * T / max L 1 = q at *
    have h1 : 0 ≤ 2200000 * tf / (1000 * tf + 300 + q) := Int.ediv_nonneg (by omega) (by omega)
    have h2 : 2200000 * tf / (1000 * tf + 300 + q) ≤ 2200000 * tf := Int.ediv_le_self _ (by omega)
    omega
  · omega
set_option maxHeartbeats 4000000 in
theorem share_no {T L tf len : Int} (hk : countedB T L tf len = false) (w : World) : Calls Try.prog 16 #[.agg #[.int .i64 T, .int .i64 L], .int .i64 tf, .int .i64 len] w fun e w' => e = .returned (.int .i64 (shareV T L tf len)) ∧ Below w.heap.size w w' := by
  have HV := Lib.hid (show shareV T L tf len = 0 by unfold shareV; rw [if_neg (by rw [hk]; simp)])
  have HC := Lib.hid (mayHave_is hk)
  clear hk
  go_enter Try.func16, Try.ntmps16
  go_wp2_with (go_at_call 23; (with_reducible refine (HC.out _).mono ?_); rintro e w' ⟨rfl, hb1⟩; have HB1 := Lib.hid hb1; clear hb1)
  go_ret
  exact ⟨ret_i HV.out.symm, ((Below.refl _ _).alloc (Nat.le_refl _) _).trans (HB1.out.mono (by simp))⟩
set_option maxHeartbeats 4000000 in
theorem share_yes {T L tf len : Int} (hk : countedB T L tf len = true) (w : World) : Calls Try.prog 16 #[.agg #[.int .i64 T, .int .i64 L], .int .i64 tf, .int .i64 len] w fun e w' => e = .returned (.int .i64 (shareV T L tf len)) ∧ Below w.heap.size w w' := by
  have HV := Lib.hid (show shareV T L tf len = 1 + 2200000 * tf / (1000 * tf + 300 + 900 * len * T / max L 1) by unfold shareV; rw [if_pos hk])
  have HC := Lib.hid (mayHave_is hk)
  obtain ⟨a1, a2, a3, a4, a5, a6, a7, a8⟩ := counted_yes hk
  obtain ⟨b1, b2, b3, b4, b5⟩ := share_parts hk
  have w1 : IntKind.i64.wrap (900 * len * T) = 900 * len * T := IntWalk.i64_in _ (by omega)
  clear hk
  go_enter Try.func16, Try.ntmps16
  go_wp2_with (go_at_call 23; (with_reducible refine (HC.out _).mono ?_); rintro e w1 ⟨rfl, hb1⟩; have hc := bcell hb1 (b := w.heap.size) (o := 0) (v := .int .i64 T) (by go_simp) (by simp); have hd := bcell hb1 (b := w.heap.size) (o := 1) (v := .int .i64 L) (by go_simp) (by simp); have HB1 := Lib.hid hb1; clear hb1)
  go_ret
  have hbd := share_bd T L tf len
  rw [HV.out] at hbd
  exact ⟨ret_i (by rw [HV.out]; exact IntWalk.wrap64_in _ (by omega)), ((Below.refl _ _).alloc (Nat.le_refl _) _).trans (HB1.out.mono (by simp))⟩
theorem share_any (T L tf len : Int) (w : World) : Calls Try.prog 16 #[.agg #[.int .i64 T, .int .i64 L], .int .i64 tf, .int .i64 len] w fun e w' => e = .returned (.int .i64 (shareV T L tf len)) ∧ Below w.heap.size w w' := by
  cases hk : countedB T L tf len with
  | true => exact share_yes hk w
  | false => exact share_no hk w
def scoreV (T L df tf len : Int) : Int := weightV T df * shareV T L tf len
theorem score_bd (T L df tf len : Int) : 0 ≤ scoreV T L df tf len ∧ scoreV T L df tf len ≤ 8705 * (2200001 * 1048576) := by
  obtain ⟨a1, a2⟩ := weight_bd T df
  obtain ⟨b1, b2⟩ := share_bd T L tf len
  exact ⟨Int.mul_nonneg a1 b1, Int.mul_le_mul a2 b2 b1 (by omega)⟩
def rightB (T L df tf len : Int) : Bool := knownB T df && countedB T L tf len
/-- What the region of Score and of Right holds: its box. -/
abbrev Box2 (w : World) (T L : Int) (W : World) : Prop := Below w.heap.size w W ∧ W.cell? ⟨w.heap.size, 0, none⟩ = some (.int .i64 T) ∧ W.cell? ⟨w.heap.size, 1, none⟩ = some (.int .i64 L)
theorem box2_start (w : World) (T L : Int) : Box2 w T L (w.alloc (.cells #[.int .i64 T, .int .i64 L] 27)) := ⟨(Below.refl _ _).alloc (Nat.le_refl _) _, by go_simp, by go_simp⟩
theorem box2_drew {w W : World} {T L : Int} (h : Box2 w T L W) : Box2 w T L W.drew := ⟨h.1.drew, h.2⟩
theorem box2_keep {w W W' : World} {T L : Int} (h : Box2 w T L W) (hb : Below W.heap.size W W') : Box2 w T L W' :=
  ⟨h.1.trans (hb.mono h.1.size), bcell hb h.2.1 (by have := cell_in h.2.1; omega), bcell hb h.2.2 (by have := cell_in h.2.2; omega)⟩
set_option maxHeartbeats 4000000 in
theorem score_any (T L df tf len : Int) (w : World) : Calls Try.prog 17 #[.agg #[.int .i64 T, .int .i64 L], .int .i64 df, .int .i64 tf, .int .i64 len] w fun e w' => e = .returned (.int .i64 (scoreV T L df tf len)) ∧ Below w.heap.size w w' := by
  have HW := Lib.hid (weight_any T L df)
  have HS := Lib.hid (share_any T L tf len)
  obtain ⟨a1, a2⟩ := score_bd T L df tf len
  have HV := Lib.hid (show scoreV T L df tf len = weightV T df * shareV T L tf len from rfl)
  go_enter Try.func17, Try.ntmps17
  go_wp2_with fail
  have SB := Lib.hid (box2_start w T L)
  generalize w.alloc (.cells #[.int .i64 T, .int .i64 L] 27) = B at SB ⊢
  go_region_held3 (fun W => Below w.heap.size w W ∧ W.cell? ⟨w.heap.size, 0, none⟩ = some (.int .i64 T) ∧ W.cell? ⟨w.heap.size, 1, none⟩ = some (.int .i64 L)) (repeat (first | with_reducible assumption | with_reducible exact SB.out | with_reducible refine box2_drew ?_)) (first
    | (go_at_call 15; (with_reducible refine (HW.out _).mono ?_); rintro e w' ⟨rfl, l0⟩; have hS := box2_keep (w := w) (T := T) (L := L) (by repeat (first | with_reducible assumption | with_reducible exact SB.out | with_reducible refine box2_drew ?_)) l0; clear l0)
    | (go_at_call 16; (with_reducible refine (HS.out _).mono ?_); rintro e w' ⟨rfl, l0⟩; have hS := box2_keep (w := w) (T := T) (L := L) (by repeat (first | with_reducible assumption | with_reducible exact SB.out | with_reducible refine box2_drew ?_)) l0; clear l0))
  have HBd := Lib.hid (And.intro a1 a2)
  clear a1 a2
  go_wp2_with fail
  go_ret
  exact ⟨ret_i (by rw [HV.out]; have h := HBd.out; rw [HV.out] at h; exact IntWalk.i64_in _ (by omega)), hS.1⟩
theorem right_any (T L df tf len : Int) (w : World) : Calls Try.prog 18 #[.agg #[.int .i64 T, .int .i64 L], .int .i64 df, .int .i64 tf, .int .i64 len] w fun e w' => e = .returned (.bool (rightB T L df tf len)) ∧ Below w.heap.size w w' := by
  cases hk : knownB T df with
  | true =>
    have HC := Lib.hid (mayCount_is hk L)
    cases hc : countedB T L tf len with
    | true =>
      have HV := Lib.hid (show rightB T L df tf len = true by unfold rightB; rw [hk, hc]; rfl)
      have HD := Lib.hid (mayHave_is hc)
      clear hk hc
      go_enter Try.func18, Try.ntmps18
      go_wp2_with (first
        | (go_at_call 22; (with_reducible refine (HC.out _).mono ?_); rintro e w1 ⟨rfl, hb1⟩; have hc := bcell hb1 (b := w.heap.size) (o := 0) (v := .int .i64 T) (by go_simp) (by simp); have hd := bcell hb1 (b := w.heap.size) (o := 1) (v := .int .i64 L) (by go_simp) (by simp); have HB1 := Lib.hid hb1; clear hb1)
        | (go_at_call 23; (with_reducible refine (HD.out _).mono ?_); rintro e w2 ⟨rfl, hb2⟩; have HB2 := Lib.hid hb2; clear hb2))
      go_ret
      exact ⟨ret_b HV.out.symm, (((Below.refl _ _).alloc (Nat.le_refl _) _).trans (HB1.out.mono (by simp))).trans (HB2.out.mono (by have := HB1.out.size; simp at this; omega))⟩
    | false =>
      have HV := Lib.hid (show rightB T L df tf len = false by unfold rightB; rw [hk, hc]; rfl)
      have HD := Lib.hid (mayHave_is hc)
      clear hk hc
      go_enter Try.func18, Try.ntmps18
      go_wp2_with (first
        | (go_at_call 22; (with_reducible refine (HC.out _).mono ?_); rintro e w1 ⟨rfl, hb1⟩; have hc := bcell hb1 (b := w.heap.size) (o := 0) (v := .int .i64 T) (by go_simp) (by simp); have hd := bcell hb1 (b := w.heap.size) (o := 1) (v := .int .i64 L) (by go_simp) (by simp); have HB1 := Lib.hid hb1; clear hb1)
        | (go_at_call 23; (with_reducible refine (HD.out _).mono ?_); rintro e w2 ⟨rfl, hb2⟩; have HB2 := Lib.hid hb2; clear hb2))
      go_ret
      exact ⟨ret_b HV.out.symm, (((Below.refl _ _).alloc (Nat.le_refl _) _).trans (HB1.out.mono (by simp))).trans (HB2.out.mono (by have := HB1.out.size; simp at this; omega))⟩
  | false =>
    have HC := Lib.hid (mayCount_is hk L)
    have HV := Lib.hid (show rightB T L df tf len = false by unfold rightB; rw [hk]; rfl)
    clear hk
    go_enter Try.func18, Try.ntmps18
    go_wp2_with (go_at_call 22; (with_reducible refine (HC.out _).mono ?_); rintro e w1 ⟨rfl, hb1⟩; have HB1 := Lib.hid hb1; clear hb1)
    go_ret
    exact ⟨ret_b HV.out.symm, ((Below.refl _ _).alloc (Nat.le_refl _) _).trans (HB1.out.mono (by simp))⟩
end Go.Proofs.Ytcacfidejhmieaa
