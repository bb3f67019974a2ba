/- Changes in memory; log's refusal. -/
import Derived.Test.YtmeijienfdefjaaLStart
namespace Go.Proofs.Ytmeijienfdefjaa
open Go.RowKit
set_option linter.unusedVariables false

theorem kept_l {W w' : World} {b o B : Nat} {v : Value} (l : Below B W w') (hB : b < B) (h : W.cell? ⟨b, o, none⟩ = some v) : w'.cell? ⟨b, o, none⟩ = some v :=
  (l.cell (p := ⟨b, o, none⟩) hB).trans h
theorem below2_l {W w' w0 : World} (h1 : Below W.heap.size W w0) (h2 : Below w0.heap.size w0 w') : Below W.heap.size W w' :=
  h1.trans (h2.mono h1.size)
/-- A change as plain data. -/
structure ChD where
  page : Int
  A : Option Addr
  m : Nat
  c : Nat
  F : Nat → Nat
structure ChAt (w : World) (b o : Nat) (x : ChD) : Prop where
  c0 : w.cell? ⟨b, o, none⟩ = some (.int .i64 x.page)
  c1 : w.cell? ⟨b, o + 1, none⟩ = some (.slice x.A x.m x.c)
/-- A slice of changes that can be read. -/
def Chs (w : World) (A : Option Addr) (n : Nat) (X : Nat → ChD) : Prop :=
  n ≤ 9223372036854775807 ∧ (∀ i, i < n → (X i).m ≤ 9223372036854775807) ∧ (0 < n → ∃ b o, A = some ⟨b, o, none⟩ ∧ ∀ i, i < n → ChAt w b (o + i * 2) (X i))
def pageB (x : ChD) : Prop := 0 ≤ x.page ∧ x.page ≤ 2147483647
open Classical in
/-- Why changes are refused; 0 if they are not. -/
noncomputable def refuseI (dead : Bool) (n : Nat) (X : Nat → ChD) (room left : Int) : Int :=
  if dead = true then 21 else if n = 0 then 1 else if ∃ i, i < n ∧ ¬ pageB (X i) then 1 else if ∃ i, i < n ∧ ((X i).m : Int) ≠ room then 3 else if left < n then 6 else 0
theorem ret_int {a b : Int} (h : a = b) : Ending.returned (.int .i64 a) = .returned (.int .i64 b) := by rw [h]
theorem refuseNil_any (A : Option Addr) (n c : Nat) (w : World) : Calls Try.prog 39 #[.pointer none, .slice A n c] w fun e w' => e = .returned (.int .i64 1) ∧ w = w' := by
  go_enter Try.func39, Try.ntmps39
  go_wp2
  go_ret
  exact ⟨rfl, rfl⟩
set_option maxHeartbeats 4000000 in
set_option maxRecDepth 100000 in
theorem refuse_any [Spare] (b : Nat) (first count epoch next : Int) (dead : Bool) (A : Option Addr) (n c : Nat) (X : Nat → ChD) (w : World) (base : Nat) (M : DM) (S : DS) (h : Dsk w base M S) (hl : w.heap[b]? = some (.cells (lgCells M.p first count epoch next dead) 85 (0, 0))) (c0 : 0 ≤ count) (c1 : count ≤ 1048576) (n0 : 0 ≤ next) (n1 : next ≤ 1048576) (hX : Chs w A n X) :
    Calls Try.prog 39 #[.pointer (some ⟨b, 0, none⟩), .slice A n c] w fun e w' => e = .returned (.int .i64 (refuseI dead n X ((S.size : Int) - 45) (count - next))) ∧ Below w.heap.size w w' := by
  have hn := hX.1
  have hS := h.hS
  have hb : b < w.heap.size := (Array.getElem?_eq_some_iff.1 hl).1
  have q0 : w.cell? ⟨b, 0, none⟩ = some (.pointer (some ⟨M.p, 0, none⟩)) := by simp [World.cell?, hl, lgCells]
  have q5 : w.cell? ⟨b, 5, none⟩ = some (.bool dead) := by simp [World.cell?, hl, lgCells]
  have KL := Lib.hid (show ∀ W, Below w.heap.size w W → Calls Try.prog 20 #[.pointer (some ⟨b, 0, none⟩)] W fun e w' => e = .returned (.int .i64 (count - next)) ∧ Below W.heap.size W w' from fun W l => left_any b M.p first count epoch next dead W ((l.block b hb).trans hl) c0 c1 n0 n1)
  have KS := Lib.hid (show ∀ W, Below w.heap.size w W → Calls Try.prog 50 #[.pointer (some ⟨M.p, 0, none⟩)] W fun e w' => e = .returned (.int .i64 (S.size : Int)) ∧ W = w' from fun W l => size_any W base M S (h.below l))
  have KR := Lib.hid (show ∀ W, Calls Try.prog 24 #[.int .i64 (S.size : Int)] W fun e w' => e = .returned (.int .i64 ((S.size : Int) - 45)) ∧ W = w' from fun W => (lroom_any (S.size : Int) W (by omega) (by omega)).mono fun e w' ⟨he, hw⟩ => ⟨he.trans (ret_int (by unfold roomI; rw [if_pos (by omega)]; omega)), hw⟩)
  have KC := Lib.hid (show ∀ W, Below w.heap.size w W → W.cell? ⟨b, 0, none⟩ = some (.pointer (some ⟨M.p, 0, none⟩)) from fun W l => kept_l l hb q0)
  have HX := Lib.hid hX
  have HS := Lib.hid hS
  clear hX h hl q0 hS
  cases dead
  case true =>
    have R := Lib.hid (show refuseI true n X ((S.size : Int) - 45) (count - next) = 21 from if_pos rfl)
    go_enter Try.func39, Try.ntmps39
    go_wp2
    go_ret
    exact ⟨ret_int R.out.symm, Below.refl _ _⟩
  have hd : ¬ (false = true) := fun k => by cases k
  by_cases hn0 : n = 0
  · have R := Lib.hid (show refuseI false n X ((S.size : Int) - 45) (count - next) = 1 by unfold refuseI; rw [if_neg hd, if_pos hn0])
    subst hn0
    go_enter Try.func39, Try.ntmps39
    go_wp2
    go_ret
    exact ⟨ret_int R.out.symm, Below.refl _ _⟩
  have E0 := Lib.hid (show refuseI false n X ((S.size : Int) - 45) (count - next) = (open Classical in if ∃ i, i < n ∧ ¬ pageB (X i) then 1 else if ∃ i, i < n ∧ ((X i).m : Int) ≠ ((S.size : Int) - 45) then 3 else if count - next < n then 6 else 0) by unfold refuseI; rw [if_neg hd, if_neg hn0])
  have hnI : ((n : Int) == 0) = false := by simp; omega
  clear hd
  obtain ⟨bb, o, rfl, hc⟩ := HX.out.2.2 (by omega)
  have hbb := cell_lt' (hc 0 (by omega)).c0
  have HC := Lib.hid (show ∀ W, Below w.heap.size w W → ∀ i, i < n → ChAt W bb (o + i * 2) (X i) from fun W l i hi => ⟨kept_l l hbb (hc i hi).c0, kept_l l hbb (hc i hi).c1⟩)
  clear hc
  go_enter Try.func39, Try.ntmps39
  go_wp2
  go_loopw [23] (fun i wr => ∃ k : Nat, i = .int .i64 k ∧ k ≤ n ∧ (∀ j, j < k → pageB (X j)) ∧ Below w.heap.size w wr) (fun i _ => n - (intOf i).toNat)
  case atStart => exact ⟨0, rfl, by omega, fun j hj => by omega, Below.refl _ _⟩
  case round =>
    obtain ⟨k, rfl, hk, ha, hB⟩ := hrel
    obtain ⟨wo, hwo⟩ : ∃ wo, wo = wr := ⟨_, rfl⟩
    subst hwo
    have HB := Lib.hid hB
    have HA := Lib.hid ha
    clear hB ha
    by_cases hlt : k < n
    · obtain ⟨d0, d1⟩ := HC.out _ HB.out k hlt
      obtain ⟨x, hx⟩ : ∃ x, x = X k := ⟨_, rfl⟩
      rw [← hx] at d0 d1
      have hkI : (k : Int) < n := by omega
      have HXK := Lib.hid hx
      clear hx
      by_cases hp : pageB x
      · have K := Lib.hid (show ∀ W, Calls Try.prog 59 #[.int .i64 x.page] W fun e w' => e = .returned (.bool true) ∧ W = w' from fun W => (isPage_any x.page W).mono fun e w' ⟨he, hw⟩ => ⟨by rw [he, show isPageB x.page = true from decide_eq_true hp], hw⟩)
        have HP := Lib.hid hp
        clear hp
        go_wp2_with (go_at_call 59; (with_reducible refine (K.out _).mono ?_); rintro e w' ⟨rfl, rfl⟩)
        go_roundw
        case rel => exact ⟨k + 1, by first | rfl | go_num, by omega, fun j hj => by
            rcases Nat.lt_or_ge j k with q | q
            · exact HA.out j q
            · obtain rfl : j = k := by omega
              rw [← HXK.out]; exact HP.out, HB.out.alloc HB.out.size _⟩
        case measure => simp [intOf]; omega
      · have K := Lib.hid (show ∀ W, Calls Try.prog 59 #[.int .i64 x.page] W fun e w' => e = .returned (.bool false) ∧ W = w' from fun W => (isPage_any x.page W).mono fun e w' ⟨he, hw⟩ => ⟨by rw [he, show isPageB x.page = false from decide_eq_false hp], hw⟩)
        have R := Lib.hid (show refuseI false n X ((S.size : Int) - 45) (count - next) = 1 by rw [E0.out, if_pos ⟨k, hlt, by rw [← HXK.out]; exact hp⟩])
        clear hp
        go_wp2_with (go_at_call 59; (with_reducible refine (K.out _).mono ?_); rintro e w' ⟨rfl, rfl⟩)
        go_ret
        exact ⟨ret_int R.out.symm, HB.out.alloc HB.out.size _⟩
    · have hge : ¬ (k : Int) < n := by omega
      have E1 := Lib.hid (E0.out.trans (if_neg (fun ⟨i, hi, q⟩ => q (HA.out i (by omega)))))
      clear hlt
      go_wp2
      clear hge HA hk
      go_loopw [34] (fun i wr => ∃ k : Nat, i = .int .i64 k ∧ k ≤ n ∧ (∀ j, j < k → ((X j).m : Int) = (S.size : Int) - 45) ∧ Below w.heap.size w wr) (fun i _ => n - (intOf i).toNat)
      case atStart => exact ⟨0, rfl, by omega, fun j hj => by omega, HB.out⟩
      case round =>
        obtain ⟨k, rfl, hk, ha, hB⟩ := hrel
        obtain ⟨wp, hwp⟩ : ∃ wp, wp = wr := ⟨_, rfl⟩
        subst hwp
        clear HB
        have HB := Lib.hid hB
        have HA := Lib.hid ha
        clear hB ha
        by_cases hlt : k < n
        · obtain ⟨d0, d1⟩ := HC.out _ HB.out k hlt
          obtain ⟨x, hx⟩ : ∃ x, x = X k := ⟨_, rfl⟩
          rw [← hx] at d0 d1
          have hkI : (k : Int) < n := by omega
          have HXK := Lib.hid hx
          have LA := Lib.hid (HB.out.alloc HB.out.size (.cells #[.int .i64 x.page, .slice x.A x.m x.c] 44))
          have g0 := KC.out _ LA.out
          have KSQ := Lib.hid (fun q => KS.out _ (below_drewN LA.out q))
          clear hx
          by_cases hp : (x.m : Int) = (S.size : Int) - 45
          · have HP := Lib.hid hp
            have hq : ((x.m : Int) != (S.size : Int) - 45) = false := by simp; omega
            clear hp
            go_wp2_with fail
            go_quiet ((first | (go_at_call 50; exact Calls.quiet_of_same ((KSQ.out _).mono fun e w' ⟨he, hw⟩ => ⟨he, hw.symm⟩)) | (go_at_call 24; exact Calls.quiet_of_same ((KR.out _).mono fun e w' ⟨he, hw⟩ => ⟨he, hw.symm⟩))))
            all_goals
              go_wp2_with fail
              go_roundw
              case rel => exact ⟨k + 1, by first | rfl | go_num, by omega, fun j hj => by
                  rcases Nat.lt_or_ge j k with q | q
                  · exact HA.out j q
                  · obtain rfl : j = k := by omega
                    rw [← HXK.out]; exact HP.out, below_drewN LA.out _⟩
              case measure => simp [intOf]; omega
          · have R := Lib.hid (show refuseI false n X ((S.size : Int) - 45) (count - next) = 3 from E1.out.trans (if_pos ⟨k, hlt, by rw [← HXK.out]; exact hp⟩))
            have hq : ((x.m : Int) != (S.size : Int) - 45) = true := by simpa using hp
            clear hp
            go_wp2_with fail
            go_quiet ((first | (go_at_call 50; exact Calls.quiet_of_same ((KSQ.out _).mono fun e w' ⟨he, hw⟩ => ⟨he, hw.symm⟩)) | (go_at_call 24; exact Calls.quiet_of_same ((KR.out _).mono fun e w' ⟨he, hw⟩ => ⟨he, hw.symm⟩))))
            all_goals
              go_wp2_with fail
              go_ret
              exact ⟨ret_int R.out.symm, below_drewN LA.out _⟩
        · have hge : ¬ (k : Int) < n := by omega
          have E2 := Lib.hid (E1.out.trans (if_neg (fun ⟨i, hi, q⟩ => q (HA.out i (by omega)))))
          clear hlt
          obtain ⟨lf, hlf⟩ : ∃ lf, lf = count - next := ⟨_, rfl⟩
          have KLW := Lib.hid (KL.out _ HB.out)
          rw [← hlf] at KLW
          by_cases hfull : lf < n
          · have R := Lib.hid (E2.out.trans (if_pos (by rw [← hlf]; exact hfull)))
            go_wp2_with (go_at_call 20; refine KLW.out.mono ?_; rintro e w' ⟨rfl, l⟩; have L := Lib.hid l; clear l)
            go_ret
            exact ⟨ret_int R.out.symm, below2_l HB.out L.out⟩
          · have R := Lib.hid (E2.out.trans (if_neg (by rw [← hlf]; exact hfull)))
            go_wp2_with (go_at_call 20; refine KLW.out.mono ?_; rintro e w' ⟨rfl, l⟩; have L := Lib.hid l; clear l)
            go_ret
            exact ⟨ret_int R.out.symm, below2_l HB.out L.out⟩
end Go.Proofs.Ytmeijienfdefjaa
