/- Merged texts: LStart, LRefuse, DNew, DKeep, DWrite, DSettle, DChoose, DFlush, DCrash, DAfter. -/
import Derived.Test.YtmikemijdglgaaaQc
import Derived.Deep.RegionLaw
import Derived.Deep.RegionHeld3
import Derived.RangeFuncBox
import Derived.IntWalk
/- log.Start, Left, Dead. -/
namespace Go.Proofs.Ytmikemijdglgaaa
open Go.RowKit
set_option linter.unusedVariables false

theorem heap_push (w : World) (o : Obj) : (w.alloc o).heap[w.heap.size]? = some o := by unfold World.alloc; simp
/-- The cells of a log. -/
def lgCells (p : Nat) (first count epoch next : Int) (dead : Bool) : Array Value := #[.pointer (some ⟨p, 0, none⟩), .int .i64 first, .int .i64 count, .int .i64 epoch, .int .i64 next, .bool dead]
theorem startNil_any (first count epoch : Int) (w : World) :
    Calls Try.prog 11 #[.pointer none, .int .i64 first, .int .i64 count, .int .i64 epoch] w fun e w' => e = .returned (.tuple #[.pointer none, .int .i64 1]) ∧ Below w.heap.size w w' := by
  have K := Lib.hid (placeNil_any first count w)
  go_enter Try.func11, Try.ntmps11
  go_wp2_with fail
  refine K.out.mono ?_
  rintro e W1 ⟨rfl, l1⟩
  have L1 := Lib.hid l1
  clear l1
  go_wp2_with fail
  exact bodyPost_ret (v := .tuple #[.pointer none, .int .i64 1]) (by simp [results, Try.results11, go_sem]) rfl ⟨rfl, L1.out.alloc L1.out.size _⟩
theorem left_any (b : Nat) (p : Nat) (first count epoch next : Int) (dead : Bool) (w : World) (h : w.heap[b]? = some (.cells (lgCells p first count epoch next dead) 85 (0, 0))) (c0 : 0 ≤ count) (c1 : count ≤ 1048576) (n0 : 0 ≤ next) (n1 : next ≤ 1048576) :
    Calls Try.prog 20 #[.pointer (some ⟨b, 0, none⟩)] w fun e w' => e = .returned (.int .i64 (count - next)) ∧ Below w.heap.size w w' := by
  have q2 : w.cell? ⟨b, 2, none⟩ = some (.int .i64 count) := by simp [World.cell?, h, lgCells]
  have q4 : w.cell? ⟨b, 4, none⟩ = some (.int .i64 next) := by simp [World.cell?, h, lgCells]
  have wr : IntKind.i64.wrap (count - next) = count - next := by rw [IntKind.wrap_i64]; omega
  clear h
  go_enter Try.func20, Try.ntmps20
  go_wp2
  go_quiet (fail)
  all_goals
    go_wp2_with fail
    go_ret
    exact ⟨rfl, below_drewN (Below.refl _ _) _⟩
theorem leftNil_any (w : World) : Calls Try.prog 20 #[.pointer none] w fun e w' => e = .returned (.int .i64 0) ∧ w = w' := by
  go_enter Try.func20, Try.ntmps20
  go_wp2
  go_ret
  exact ⟨rfl, rfl⟩
theorem dead_any (b : Nat) (p : Nat) (first count epoch next : Int) (dead : Bool) (w : World) (h : w.heap[b]? = some (.cells (lgCells p first count epoch next dead) 85 (0, 0))) :
    Calls Try.prog 21 #[.pointer (some ⟨b, 0, none⟩)] w fun e w' => e = .returned (.bool dead) ∧ w = w' := by
  have q5 : w.cell? ⟨b, 5, none⟩ = some (.bool dead) := by simp [World.cell?, h, lgCells]
  clear h
  go_enter Try.func21, Try.ntmps21
  go_wp2
  go_ret
  exact ⟨rfl, rfl⟩
theorem deadNil_any (w : World) : Calls Try.prog 21 #[.pointer none] w fun e w' => e = .returned (.bool false) ∧ w = w' := by
  go_enter Try.func21, Try.ntmps21
  go_wp2
  go_ret
  exact ⟨rfl, rfl⟩
theorem start_any [Spare] (first count epoch : Int) (w : World) (base : Nat) (M : DM) (S : DS) (h : Dsk w base M S) (f0 : -9223372036854775808 ≤ first) (f1 : first ≤ 9223372036854775807) (c1 : count ≤ 9223372036854775807) :
    Calls Try.prog 11 #[.pointer (some ⟨M.p, 0, none⟩), .int .i64 first, .int .i64 count, .int .i64 epoch] w fun e w' =>
      (plB S.N first count ∧ (1 ≤ epoch ∧ epoch ≤ 1099511627776) ∧ (∃ b, w.heap.size ≤ b ∧ e = .returned (.tuple #[.pointer (some ⟨b, 0, none⟩), .int .i64 0]) ∧ w'.heap[b]? = some (.cells (lgCells M.p first count epoch 0 false) 85 (0, 0))) ∨
        ¬ (plB S.N first count ∧ 1 ≤ epoch ∧ epoch ≤ 1099511627776) ∧ e = .returned (.tuple #[.pointer none, .int .i64 1])) ∧ Below w.heap.size w w' := by
  have K := Lib.hid (placeOf_any first count w base M S h f0 f1 c1)
  clear h
  go_enter Try.func11, Try.ntmps11
  go_wp2_with fail
  refine K.out.mono ?_
  rintro e W1 ⟨⟨yes, rfl⟩ | ⟨no, rfl⟩, l1⟩
  · have L1 := Lib.hid l1
    have Y := Lib.hid yes
    clear l1 yes
    go_wp2_with fail
    refine (isEpoch_any _ _).mono ?_
    rintro e w' ⟨rfl, rfl⟩
    by_cases hp : 1 ≤ epoch ∧ epoch ≤ 1099511627776
    · rw [show isEpochB epoch = true from decide_eq_true hp]
      have P := Lib.hid hp
      clear hp
      go_wp2_with fail
      have z1 := L1.out.size
      refine bodyPost_ret (v := .tuple #[.pointer (some ⟨W1.heap.size + 1, 0, none⟩), .int .i64 0]) (by simp [results, Try.results11, go_sem]) rfl ⟨.inl ⟨Y.out, P.out, W1.heap.size + 1, by omega, rfl, by rw [show W1.heap.size + 1 = (W1.alloc (.cells #[.pointer (some ⟨M.p, 0, none⟩), .int .i64 first, .int .i64 count] 80)).heap.size by simp]; exact heap_push _ _⟩, (L1.out.alloc L1.out.size _).alloc (by simp; omega) _⟩
    · rw [show isEpochB epoch = false from decide_eq_false hp]
      have P := Lib.hid hp
      clear hp
      go_wp2_with fail
      exact bodyPost_ret (v := .tuple #[.pointer none, .int .i64 1]) (by simp [results, Try.results11, go_sem]) rfl ⟨.inr ⟨fun k => P.out k.2, rfl⟩, L1.out.alloc L1.out.size _⟩
  · have L1 := Lib.hid l1
    have NO := Lib.hid no
    clear l1 no
    go_wp2_with fail
    exact bodyPost_ret (v := .tuple #[.pointer none, .int .i64 1]) (by simp [results, Try.results11, go_sem]) rfl ⟨.inr ⟨fun k => NO.out k.1, rfl⟩, L1.out.alloc L1.out.size _⟩
end Go.Proofs.Ytmikemijdglgaaa
/- Changes in memory; log's refusal. -/
namespace Go.Proofs.Ytmikemijdglgaaa
open Go.RowKit
set_option linter.unusedVariables false

theorem kept_l {W w' : World} {b o B : Nat} {v : Value} (l : Below B W w') (hB : b < B) (h : W.cell? ⟨b, o, none⟩ = some v) : w'.cell? ⟨b, o, none⟩ = some v :=
  (l.cell (p := ⟨b, o, none⟩) hB).trans h
theorem below2_l {W w' w0 : World} (h1 : Below W.heap.size W w0) (h2 : Below w0.heap.size w0 w') : Below W.heap.size W w' :=
  h1.trans (h2.mono h1.size)
/-- A change as plain data. -/
structure ChD where
  page : Int
  A : Option Addr
  m : Nat
  c : Nat
  F : Nat → Nat
structure ChAt (w : World) (b o : Nat) (x : ChD) : Prop where
  c0 : w.cell? ⟨b, o, none⟩ = some (.int .i64 x.page)
  c1 : w.cell? ⟨b, o + 1, none⟩ = some (.slice x.A x.m x.c)
/-- A slice of changes that can be read. -/
def Chs (w : World) (A : Option Addr) (n : Nat) (X : Nat → ChD) : Prop :=
  n ≤ 9223372036854775807 ∧ (∀ i, i < n → (X i).m ≤ 9223372036854775807) ∧ (0 < n → ∃ b o, A = some ⟨b, o, none⟩ ∧ ∀ i, i < n → ChAt w b (o + i * 2) (X i))
def pageB (x : ChD) : Prop := 0 ≤ x.page ∧ x.page ≤ 2147483647
open Classical in
/-- Why changes are refused; 0 if they are not. -/
noncomputable def refuseI (dead : Bool) (n : Nat) (X : Nat → ChD) (room left : Int) : Int :=
  if dead = true then 21 else if n = 0 then 1 else if ∃ i, i < n ∧ ¬ pageB (X i) then 1 else if ∃ i, i < n ∧ ((X i).m : Int) ≠ room then 3 else if left < n then 6 else 0
theorem ret_int {a b : Int} (h : a = b) : Ending.returned (.int .i64 a) = .returned (.int .i64 b) := by rw [h]
theorem refuseNil_any (A : Option Addr) (n c : Nat) (w : World) : Calls Try.prog 39 #[.pointer none, .slice A n c] w fun e w' => e = .returned (.int .i64 1) ∧ w = w' := by
  go_enter Try.func39, Try.ntmps39
  go_wp2
  go_ret
  exact ⟨rfl, rfl⟩
set_option maxHeartbeats 4000000 in
set_option maxRecDepth 100000 in
theorem refuse_any [Spare] (b : Nat) (first count epoch next : Int) (dead : Bool) (A : Option Addr) (n c : Nat) (X : Nat → ChD) (w : World) (base : Nat) (M : DM) (S : DS) (h : Dsk w base M S) (hl : w.heap[b]? = some (.cells (lgCells M.p first count epoch next dead) 85 (0, 0))) (c0 : 0 ≤ count) (c1 : count ≤ 1048576) (n0 : 0 ≤ next) (n1 : next ≤ 1048576) (hX : Chs w A n X) :
    Calls Try.prog 39 #[.pointer (some ⟨b, 0, none⟩), .slice A n c] w fun e w' => e = .returned (.int .i64 (refuseI dead n X ((S.size : Int) - 45) (count - next))) ∧ Below w.heap.size w w' := by
  have hn := hX.1
  have hS := h.hS
  have hb : b < w.heap.size := (Array.getElem?_eq_some_iff.1 hl).1
  have q0 : w.cell? ⟨b, 0, none⟩ = some (.pointer (some ⟨M.p, 0, none⟩)) := by simp [World.cell?, hl, lgCells]
  have q5 : w.cell? ⟨b, 5, none⟩ = some (.bool dead) := by simp [World.cell?, hl, lgCells]
  have KL := Lib.hid (show ∀ W, Below w.heap.size w W → Calls Try.prog 20 #[.pointer (some ⟨b, 0, none⟩)] W fun e w' => e = .returned (.int .i64 (count - next)) ∧ Below W.heap.size W w' from fun W l => left_any b M.p first count epoch next dead W ((l.block b hb).trans hl) c0 c1 n0 n1)
  have KS := Lib.hid (show ∀ W, Below w.heap.size w W → Calls Try.prog 50 #[.pointer (some ⟨M.p, 0, none⟩)] W fun e w' => e = .returned (.int .i64 (S.size : Int)) ∧ W = w' from fun W l => size_any W base M S (h.below l))
  have KR := Lib.hid (show ∀ W, Calls Try.prog 24 #[.int .i64 (S.size : Int)] W fun e w' => e = .returned (.int .i64 ((S.size : Int) - 45)) ∧ W = w' from fun W => (lroom_any (S.size : Int) W (by omega) (by omega)).mono fun e w' ⟨he, hw⟩ => ⟨he.trans (ret_int (by unfold roomI; rw [if_pos (by omega)]; omega)), hw⟩)
  have KC := Lib.hid (show ∀ W, Below w.heap.size w W → W.cell? ⟨b, 0, none⟩ = some (.pointer (some ⟨M.p, 0, none⟩)) from fun W l => kept_l l hb q0)
  have HX := Lib.hid hX
  have HS := Lib.hid hS
  clear hX h hl q0 hS
  cases dead
  case true =>
    have R := Lib.hid (show refuseI true n X ((S.size : Int) - 45) (count - next) = 21 from if_pos rfl)
    go_enter Try.func39, Try.ntmps39
    go_wp2
    go_ret
    exact ⟨ret_int R.out.symm, Below.refl _ _⟩
  have hd : ¬ (false = true) := fun k => by cases k
  by_cases hn0 : n = 0
  · have R := Lib.hid (show refuseI false n X ((S.size : Int) - 45) (count - next) = 1 by unfold refuseI; rw [if_neg hd, if_pos hn0])
    subst hn0
    go_enter Try.func39, Try.ntmps39
    go_wp2
    go_ret
    exact ⟨ret_int R.out.symm, Below.refl _ _⟩
  have E0 := Lib.hid (show refuseI false n X ((S.size : Int) - 45) (count - next) = (open Classical in if ∃ i, i < n ∧ ¬ pageB (X i) then 1 else if ∃ i, i < n ∧ ((X i).m : Int) ≠ ((S.size : Int) - 45) then 3 else if count - next < n then 6 else 0) by unfold refuseI; rw [if_neg hd, if_neg hn0])
  have hnI : ((n : Int) == 0) = false := by simp; omega
  clear hd
  obtain ⟨bb, o, rfl, hc⟩ := HX.out.2.2 (by omega)
  have hbb := cell_lt' (hc 0 (by omega)).c0
  have HC := Lib.hid (show ∀ W, Below w.heap.size w W → ∀ i, i < n → ChAt W bb (o + i * 2) (X i) from fun W l i hi => ⟨kept_l l hbb (hc i hi).c0, kept_l l hbb (hc i hi).c1⟩)
  clear hc
  go_enter Try.func39, Try.ntmps39
  go_wp2
  go_loopw [23] (fun i wr => ∃ k : Nat, i = .int .i64 k ∧ k ≤ n ∧ (∀ j, j < k → pageB (X j)) ∧ Below w.heap.size w wr) (fun i _ => n - (intOf i).toNat)
  case atStart => exact ⟨0, rfl, by omega, fun j hj => by omega, Below.refl _ _⟩
  case round =>
    obtain ⟨k, rfl, hk, ha, hB⟩ := hrel
    obtain ⟨wo, hwo⟩ : ∃ wo, wo = wr := ⟨_, rfl⟩
    subst hwo
    have HB := Lib.hid hB
    have HA := Lib.hid ha
    clear hB ha
    by_cases hlt : k < n
    · obtain ⟨d0, d1⟩ := HC.out _ HB.out k hlt
      obtain ⟨x, hx⟩ : ∃ x, x = X k := ⟨_, rfl⟩
      rw [← hx] at d0 d1
      have hkI : (k : Int) < n := by omega
      have HXK := Lib.hid hx
      clear hx
      by_cases hp : pageB x
      · have K := Lib.hid (show ∀ W, Calls Try.prog 59 #[.int .i64 x.page] W fun e w' => e = .returned (.bool true) ∧ W = w' from fun W => (isPage_any x.page W).mono fun e w' ⟨he, hw⟩ => ⟨by rw [he, show isPageB x.page = true from decide_eq_true hp], hw⟩)
        have HP := Lib.hid hp
        clear hp
        go_wp2_with (go_at_call 59; (with_reducible refine (K.out _).mono ?_); rintro e w' ⟨rfl, rfl⟩)
        go_roundw
        case rel => exact ⟨k + 1, by first | rfl | go_num, by omega, fun j hj => by
            rcases Nat.lt_or_ge j k with q | q
            · exact HA.out j q
            · obtain rfl : j = k := by omega
              rw [← HXK.out]; exact HP.out, HB.out.alloc HB.out.size _⟩
        case measure => simp [intOf]; omega
      · have K := Lib.hid (show ∀ W, Calls Try.prog 59 #[.int .i64 x.page] W fun e w' => e = .returned (.bool false) ∧ W = w' from fun W => (isPage_any x.page W).mono fun e w' ⟨he, hw⟩ => ⟨by rw [he, show isPageB x.page = false from decide_eq_false hp], hw⟩)
        have R := Lib.hid (show refuseI false n X ((S.size : Int) - 45) (count - next) = 1 by rw [E0.out, if_pos ⟨k, hlt, by rw [← HXK.out]; exact hp⟩])
        clear hp
        go_wp2_with (go_at_call 59; (with_reducible refine (K.out _).mono ?_); rintro e w' ⟨rfl, rfl⟩)
        go_ret
        exact ⟨ret_int R.out.symm, HB.out.alloc HB.out.size _⟩
    · have hge : ¬ (k : Int) < n := by omega
      have E1 := Lib.hid (E0.out.trans (if_neg (fun ⟨i, hi, q⟩ => q (HA.out i (by omega)))))
      clear hlt
      go_wp2
      clear hge HA hk
      go_loopw [34] (fun i wr => ∃ k : Nat, i = .int .i64 k ∧ k ≤ n ∧ (∀ j, j < k → ((X j).m : Int) = (S.size : Int) - 45) ∧ Below w.heap.size w wr) (fun i _ => n - (intOf i).toNat)
      case atStart => exact ⟨0, rfl, by omega, fun j hj => by omega, HB.out⟩
      case round =>
        obtain ⟨k, rfl, hk, ha, hB⟩ := hrel
        obtain ⟨wp, hwp⟩ : ∃ wp, wp = wr := ⟨_, rfl⟩
        subst hwp
        clear HB
        have HB := Lib.hid hB
        have HA := Lib.hid ha
        clear hB ha
        by_cases hlt : k < n
        · obtain ⟨d0, d1⟩ := HC.out _ HB.out k hlt
          obtain ⟨x, hx⟩ : ∃ x, x = X k := ⟨_, rfl⟩
          rw [← hx] at d0 d1
          have hkI : (k : Int) < n := by omega
          have HXK := Lib.hid hx
          have LA := Lib.hid (HB.out.alloc HB.out.size (.cells #[.int .i64 x.page, .slice x.A x.m x.c] 44))
          have g0 := KC.out _ LA.out
          have KSQ := Lib.hid (fun q => KS.out _ (below_drewN LA.out q))
          clear hx
          by_cases hp : (x.m : Int) = (S.size : Int) - 45
          · have HP := Lib.hid hp
            have hq : ((x.m : Int) != (S.size : Int) - 45) = false := by simp; omega
            clear hp
            go_wp2_with fail
            go_quiet ((first | (go_at_call 50; exact Calls.quiet_of_same ((KSQ.out _).mono fun e w' ⟨he, hw⟩ => ⟨he, hw.symm⟩)) | (go_at_call 24; exact Calls.quiet_of_same ((KR.out _).mono fun e w' ⟨he, hw⟩ => ⟨he, hw.symm⟩))))
            all_goals
              go_wp2_with fail
              go_roundw
              case rel => exact ⟨k + 1, by first | rfl | go_num, by omega, fun j hj => by
                  rcases Nat.lt_or_ge j k with q | q
                  · exact HA.out j q
                  · obtain rfl : j = k := by omega
                    rw [← HXK.out]; exact HP.out, below_drewN LA.out _⟩
              case measure => simp [intOf]; omega
          · have R := Lib.hid (show refuseI false n X ((S.size : Int) - 45) (count - next) = 3 from E1.out.trans (if_pos ⟨k, hlt, by rw [← HXK.out]; exact hp⟩))
            have hq : ((x.m : Int) != (S.size : Int) - 45) = true := by simpa using hp
            clear hp
            go_wp2_with fail
            go_quiet ((first | (go_at_call 50; exact Calls.quiet_of_same ((KSQ.out _).mono fun e w' ⟨he, hw⟩ => ⟨he, hw.symm⟩)) | (go_at_call 24; exact Calls.quiet_of_same ((KR.out _).mono fun e w' ⟨he, hw⟩ => ⟨he, hw.symm⟩))))
            all_goals
              go_wp2_with fail
              go_ret
              exact ⟨ret_int R.out.symm, below_drewN LA.out _⟩
        · have hge : ¬ (k : Int) < n := by omega
          have E2 := Lib.hid (E1.out.trans (if_neg (fun ⟨i, hi, q⟩ => q (HA.out i (by omega)))))
          clear hlt
          obtain ⟨lf, hlf⟩ : ∃ lf, lf = count - next := ⟨_, rfl⟩
          have KLW := Lib.hid (KL.out _ HB.out)
          rw [← hlf] at KLW
          by_cases hfull : lf < n
          · have R := Lib.hid (E2.out.trans (if_pos (by rw [← hlf]; exact hfull)))
            go_wp2_with (go_at_call 20; refine KLW.out.mono ?_; rintro e w' ⟨rfl, l⟩; have L := Lib.hid l; clear l)
            go_ret
            exact ⟨ret_int R.out.symm, below2_l HB.out L.out⟩
          · have R := Lib.hid (E2.out.trans (if_neg (by rw [← hlf]; exact hfull)))
            go_wp2_with (go_at_call 20; refine KLW.out.mono ?_; rintro e w' ⟨rfl, l⟩; have L := Lib.hid l; clear l)
            go_ret
            exact ⟨ret_int R.out.symm, below2_l HB.out L.out⟩
end Go.Proofs.Ytmikemijdglgaaa
/- The contract of New. -/
namespace Go.Proofs.Ytmikemijdglgaaa
open Go.RowKit

def newS (N size : Nat) : DS := { N := N, size := size, fast := fun _ _ => 0, now := fun _ _ => 0, loose := [], armed := 0, down := false }
theorem sliceinfo : (Try.prog.info? 42).map (fun i => (i.zero, i.size, i.bytes)) = some (some (.slice none 0 0), 1, 24) := by kernel_rfl

/-- A new disk, its two lists laid in either order. -/
theorem new_disk [Spare] (w' : World) (N size p bf bn : Nat) (hN : 1 ≤ N ∧ N ≤ 1048576) (hS : 64 ≤ size ∧ size ≤ 4096) (base : Nat) (hp : base ≤ p) (hf : base ≤ bf) (hn : base ≤ bn) (hne : bf ≠ bn) (hE : ∀ g, w'.heap.size ≤ g → Spare.ok g)
    (h1 : w'.heap[p]? = some (.cells #[.int .i64 (size : Int), .slice (some ⟨bf, 0, none⟩) N N, .slice (some ⟨bn, 0, none⟩) N N, .slice none 0 0, .int .i64 0, .bool false] 78 (0, 0)))
    (h2 : w'.rowIs bf 42 N (fun _ => .slice none 0 0)) (h3 : w'.rowIs bn 42 N (fun _ => .slice none 0 0)) : Dsk w' base { p := p, bf := bf, bn := bn, cn := N, vl := .slice none 0 0 } (newS N size) where
  hp := h1
  bp := hp
  vf := ⟨_, h2, fun _ _ => ⟨fun _ _ => by show (0 : Nat) < 256; omega, .inl ⟨rfl, fun _ _ => rfl⟩⟩⟩
  vn := ⟨_, h3, fun _ _ => ⟨fun _ _ => by show (0 : Nat) < 256; omega, .inl ⟨rfl, fun _ _ => rfl⟩⟩⟩
  bfn := hne
  bbf := hf
  bbn := hn
  lo := ⟨[], rfl, World.ownsRow_nil _ _ _ _, fun _ _ _ hj => by simp at hj⟩
  hN := hN
  hS := hS
  hA := by show (0 : Nat) ≤ 9223372036854775807; omega
  hL := by show (0 : Nat) ≤ 1000000; omega
  hC := ⟨Nat.le_refl _, by show N ≤ _; omega⟩
  hE := hE

theorem three_new (w : World) (N : Nat) (c : Array Value) (W3 : World) (hW : W3 = (((w.alloc (.cells (madeCells #[.slice none 0 0] N) 42)).alloc (.cells (madeCells #[.slice none 0 0] N) 42)).alloc (.cells c 78)).drew) :
    W3.heap[w.heap.size + 1 + 1]? = some (.cells c 78 (0, 0)) ∧ W3.rowIs w.heap.size 42 N (fun _ => .slice none 0 0) ∧ W3.rowIs (w.heap.size + 1) 42 N (fun _ => .slice none 0 0) ∧ Below w.heap.size w W3 := by
  subst hW
  have r1 := World.rowIs_made w (.slice none 0 0) N 42
  have r2 := World.rowIs_made (w.alloc (.cells (madeCells #[.slice none 0 0] N) 42)) (.slice none 0 0) N 42
  rw [World.size_alloc] at r2
  refine ⟨?_, (((r1.alloc _).alloc _).drew), ((r2.alloc _).drew), ((((Below.refl _ _).alloc (Nat.le_refl _) _).alloc (by simp) _).alloc (by simp; omega) _).drew⟩
  have := heap_alloc_new ((w.alloc (.cells (madeCells #[.slice none 0 0] N) 42)).alloc (.cells (madeCells #[.slice none 0 0] N) 42)) (.cells c 78)
  rw [World.size_alloc, World.size_alloc] at this
  exact this
def NewPost [Spare] (N size : Nat) (w : World) (e : Ending) (w' : World) : Prop := ∃ M, e = .returned (.pointer (some ⟨M.p, 0, none⟩)) ∧ Dsk w' w.heap.size M (newS N size) ∧ Below w.heap.size w w'

set_option maxHeartbeats 1000000 in
theorem new_ok [Spare] (N size : Nat) (w : World) (hN : 1 ≤ N ∧ N ≤ 1048576) (hS : 64 ≤ size ∧ size ≤ 4096) (hE : ∀ g, w.heap.size ≤ g → Spare.ok g) :
    Calls Try.prog 10 #[.int .i64 N, .int .i64 size] w (NewPost N size w) := by
  have hmk := run_make_row' (P := Try.prog) 56 42 (.slice none 0 0) 24 Try.underlying56 sliceinfo rfl .i64 .i64 N (by omega) (by omega)
  obtain ⟨hN1, hN2⟩ := hN
  obtain ⟨hS1, hS2⟩ := hS
  go_enter Try.func10, Try.ntmps10
  go_wp2
  go_region
  · obtain ⟨W3, hW⟩ : ∃ W3, W3 = (((w.alloc (.cells (madeCells #[.slice none 0 0] N) 42)).alloc (.cells (madeCells #[.slice none 0 0] N) 42)).alloc
      (.cells #[.int .i64 (size : Int), .slice (some ⟨w.heap.size, 0, none⟩) N N, .slice (some ⟨w.heap.size + 1, 0, none⟩) N N, .slice none 0 0, .int .i64 0, .bool false] 78)).drew := ⟨_, rfl⟩
    obtain ⟨h1, h2, h3, h4⟩ := three_new w N _ W3 hW
    rw [← hW]
    have D := Lib.hid (new_disk W3 N size (w.heap.size + 1 + 1) w.heap.size (w.heap.size + 1) ⟨hN1, hN2⟩ ⟨hS1, hS2⟩ w.heap.size (by omega) (by omega) (by omega) (by omega) (fun g hg => hE g (Nat.le_trans h4.size hg)) h1 h2 h3)
    have B := Lib.hid h4
    clear hW h1 h2 h3 h4 hmk
    go_wp2
    go_ret
    exact ⟨_, rfl, D.out, B.out⟩
  · obtain ⟨W3, hW⟩ : ∃ W3, W3 = (((w.alloc (.cells (madeCells #[.slice none 0 0] N) 42)).alloc (.cells (madeCells #[.slice none 0 0] N) 42)).alloc
      (.cells #[.int .i64 (size : Int), .slice (some ⟨w.heap.size + 1, 0, none⟩) N N, .slice (some ⟨w.heap.size, 0, none⟩) N N, .slice none 0 0, .int .i64 0, .bool false] 78)).drew := ⟨_, rfl⟩
    obtain ⟨h1, h2, h3, h4⟩ := three_new w N _ W3 hW
    rw [← hW]
    have D := Lib.hid (new_disk W3 N size (w.heap.size + 1 + 1) (w.heap.size + 1) w.heap.size ⟨hN1, hN2⟩ ⟨hS1, hS2⟩ w.heap.size (by omega) (by omega) (by omega) (by omega) (fun g hg => hE g (Nat.le_trans h4.size hg)) h1 h3 h2)
    have B := Lib.hid h4
    clear hW h1 h2 h3 h4 hmk
    go_wp2
    go_ret
    exact ⟨_, rfl, D.out, B.out⟩
end Go.Proofs.Ytmikemijdglgaaa
/- The contract of keep: a loose write of a copy of b. -/
namespace Go.Proofs.Ytmikemijdglgaaa
open Go.RowKit

theorem OwnB.secV [Spare] {w : World} {base n c : Nat} {A : Option Addr} {F : Nat → Nat} (h : OwnB w base A n c F) (hn : 0 < n) (hE : ∀ g, base ≤ g → Spare.ok g) : SecV w base n (.slice A n c) F := by
  refine ⟨h.2.1, .inr ?_⟩
  have hc := h.2.2
  rcases h.1.2 with ⟨_, h0⟩ | ⟨g, cap, cur, e1, e2, e3, e4, e5, e6, e7⟩
  · omega
  · injection e1 with a1 a2 a3
    subst a1 a3
    refine ⟨g, c, cur, rfl, hc.1, hc.2.1, ⟨e2, hE g e2⟩, e3, fun i hi => ?_⟩
    have := congrArg (fun l => l[i]?) e7
    simp only [Nat.mul_one] at this
    rw [List.getElem?_take_of_lt hi] at this
    rw [← Array.getElem?_toList, this]
    unfold cellsOfF
    rw [List.getElem?_map, List.getElem?_range hi]
    rfl

/-- append onto a row of the call's own, as a step of a region that draws its order. -/
theorem step_append_own {P : Program} {ops : Array Oper} {o : Oper} {a : Act} {w : World} {K : Act → World → Prop} {Q : Exit → Act → World → Prop} {E : Prop} (hgd : o.guard = none) (s x : Operand) (t : TypeId)
    (ho : o.op = .call { callee := .builtin .append, args := #[s, x], argTypes := #[t, t] })
    (base : Nat) (e : TypeId) (i : TypeInfo) (z : Value) (size bytes : Nat) (ht : P.underlying t = some (.slice e)) (hi : P.info? e = some i) (hz : i.zero = some z)
    (hsize : i.size = size) (hby : i.bytes = bytes) (hzs : z.cells.size = size) (hsz : 0 < size)
    (v : Value) (n : Nat) (xs : List Value) (hs : a.eval s = v) (hown : w.ownsRow base e size v n xs)
    (ad : Addr) (m c : Nat) (news : List Value) (hx : a.eval x = .slice (some ad) m c) (hl : news.length = m * size) (hnews : ∀ j u, news[j]? = some u → w.cell? (ad.add j) = some u) (h1 : ∀ u ∈ news, u.oneCell' = true)
    (h63 : n + m ≤ maxLen) (hbytes : (n + m) * bytes ≤ 140737488355328) (hbase : base ≤ w.heap.size)
    (h : ∀ v' w', Hid (w'.ownsRow base e size v' (n + m) (xs ++ news)) → Hid (w.grownBy w' v.ownBlock) → (v'.ownBlock = v.ownBlock ∨ v'.ownBlock = some w.heap.size) → (∃ g cap, v' = .slice (some ⟨g, 0, none⟩) (n + m) cap ∨ n + m = 0) → K (a.put o.dst v') w') :
    if Region.wanted o (yielded ops a.tmps) = true then Oper.wp P o a w K Q else E := by
  have hw : Region.wanted o (yielded ops a.tmps) = true := by simp [Region.wanted, hgd]
  rw [if_pos hw]
  obtain ⟨v', w', hr, h2, h3, _, h5⟩ := run_append_own_at (P := P) w base t o.type e i z size bytes ht hi hz hsize hby hzs hsz v n xs hown ad m c news hl hnews h1 h63 hbytes hbase
  unfold Oper.wp execOp
  simp only [ho, resolve, invoke, builtin, Sem.run_bind, Sem.run_pure, Result.andThen_ok, List.map_toArray, List.map_cons, List.map_nil, hs, hx, hr]
  refine h v' w' h2 h3 h5 ?_
  rcases h2.2 with ⟨_, h0⟩ | ⟨g, cap, cur, e1, _⟩
  · exact ⟨0, 0, .inr h0⟩
  · exact ⟨g, cap, .inl e1⟩

def upd (f : Nat → Nat → Nat) (k : Nat) (F : Nat → Nat) : Nat → Nat → Nat := fun j => if j = k then F else f j
theorem keepB_below [Spare] {w w' : World} {base : Nat} (h : Below w.heap.size w w') : KeepB base w w' := fun g _ _ hg => (h.block g (Array.getElem?_eq_some_iff.1 hg).1).trans hg
theorem SecV.lower [Spare] {w : World} {b base size : Nat} {v : Value} {F : Nat → Nat} (h : SecV w b size v F) (hb : base ≤ b) : SecV w base size v F := by
  refine ⟨h.1, ?_⟩
  rcases h.2 with h2 | ⟨g, c, cs, h1, h2, h3, h4, h5, h6⟩
  · exact .inl h2
  · exact .inr ⟨g, c, cs, h1, h2, h3, ⟨Nat.le_trans hb h4.1, h4.2⟩, h5, h6⟩

/-- A sector's value is put into one of the two lists. -/
theorem Dsk.setNow [Spare] {w : World} {base k : Nat} {M : DM} {S : DS} {y : Value} {F : Nat → Nat} (h : Dsk w base M S) (hy : SecV w base S.size y F) :
    Dsk (w.setCell ⟨M.bn, k, none⟩ y) base M { S with now := upd S.now k F } ∧ KeepB base w (w.setCell ⟨M.bn, k, none⟩ y) := by
  obtain ⟨V, v1, v2⟩ := h.vf
  obtain ⟨U, u1, u2⟩ := h.vn
  obtain ⟨vs, l1, l2, l3⟩ := h.lo
  obtain ⟨c', cv', cn', cc'⟩ := id u1
  have hb : KeepB base w (w.setCell ⟨M.bn, k, none⟩ y) := keepB_store cv' (by decide)
  refine ⟨⟨?_, h.bp, ⟨V, v1.setOther h.bfn y, fun j hj => (v2 j hj).keep hb⟩, ⟨_, u1.set k y, fun j hj => ?_⟩, h.bfn, h.bbf, h.bbn, ⟨vs, l1, ⟨l2.1, ?_⟩, fun j u x hj hx => ⟨(l3 j u x hj hx).1, (l3 j u x hj hx).2.keep hb⟩⟩, h.hN, h.hS, h.hA, h.hL, h.hC, fun g hg => h.hE g (by rw [size_set] at hg; exact hg)⟩, hb⟩
  · rw [Below.heap_setCell w ⟨M.bn, k, none⟩ y M.p (type_ne h.hp cv' (by decide))]
    exact h.hp
  · show SecV _ base S.size (if j = k then y else U j) (upd S.now k F j)
    unfold upd
    by_cases e : j = k
    · rw [if_pos e, if_pos e]; exact hy.keep hb
    · rw [if_neg e, if_neg e]; exact (u2 j hj).keep hb
  · rcases l2.2 with h2 | ⟨g, cap, cur, a1, a2, a3, a4⟩
    · exact .inl h2
    · exact .inr ⟨g, cap, cur, a1, a2, (Below.heap_setCell w ⟨M.bn, k, none⟩ y g (type_ne a3 cv' (by decide))).trans a3, a4⟩
theorem Dsk.setFast [Spare] {w : World} {base k : Nat} {M : DM} {S : DS} {y : Value} {F : Nat → Nat} (h : Dsk w base M S) (hy : SecV w base S.size y F) :
    Dsk (w.setCell ⟨M.bf, k, none⟩ y) base M { S with fast := upd S.fast k F } ∧ KeepB base w (w.setCell ⟨M.bf, k, none⟩ y) := by
  obtain ⟨V, v1, v2⟩ := h.vf
  obtain ⟨U, u1, u2⟩ := h.vn
  obtain ⟨vs, l1, l2, l3⟩ := h.lo
  obtain ⟨c', cv', cn', cc'⟩ := id v1
  have hb : KeepB base w (w.setCell ⟨M.bf, k, none⟩ y) := keepB_store cv' (by decide)
  refine ⟨⟨?_, h.bp, ⟨_, v1.set k y, fun j hj => ?_⟩, ⟨U, u1.setOther (fun e => h.bfn e.symm) y, fun j hj => (u2 j hj).keep hb⟩, h.bfn, h.bbf, h.bbn, ⟨vs, l1, ⟨l2.1, ?_⟩, fun j u x hj hx => ⟨(l3 j u x hj hx).1, (l3 j u x hj hx).2.keep hb⟩⟩, h.hN, h.hS, h.hA, h.hL, h.hC, fun g hg => h.hE g (by rw [size_set] at hg; exact hg)⟩, hb⟩
  · rw [Below.heap_setCell w ⟨M.bf, k, none⟩ y M.p (type_ne h.hp cv' (by decide))]
    exact h.hp
  · show SecV _ base S.size (if j = k then y else V j) (upd S.fast k F j)
    unfold upd
    by_cases e : j = k
    · rw [if_pos e, if_pos e]; exact hy.keep hb
    · rw [if_neg e, if_neg e]; exact (v2 j hj).keep hb
  · rcases l2.2 with h2 | ⟨g, cap, cur, a1, a2, a3, a4⟩
    · exact .inl h2
    · exact .inr ⟨g, cap, cur, a1, a2, (Below.heap_setCell w ⟨M.bf, k, none⟩ y g (type_ne a3 cv' (by decide))).trans a3, a4⟩

theorem writeinfo : (Try.prog.info? 111).map (fun i => (i.zero, i.size, i.bytes)) = some (some (.agg #[.int .i64 0, .slice none 0 0]), 2, 32) := by kernel_rfl

/-- The world at the append: the copy of the write, and the row of one that is appended. -/
structure KeepAt [Spare] (w W : World) (base : Nat) (M : DM) (S : DS) (vs : List Value) (x y : Value) (g : Nat) : Prop where
  d : Dsk W base M S
  own : W.ownsRow base 111 2 M.vl S.loose.length (looseCells S.loose vs)
  news : ∀ j u, [x, y][j]? = some u → W.cell? ((⟨g, 0, none⟩ : Addr).add j) = some u
  below : Below w.heap.size w W
theorem KeepAt.make [Spare] {w W1 : World} {base : Nat} {M : DM} {S : DS} {vs : List Value} {x y : Value} (D : Dsk W1 base M S) (ho : W1.ownsRow base 111 2 M.vl S.loose.length (looseCells S.loose vs)) (hb : Below w.heap.size w W1) (W : World)
    (hW : W = ((W1.alloc (.cells #[x, y] 111)).alloc (.cells #[x, y] 111)).drew) : KeepAt w W base M S vs x y (W1.heap.size + 1) := by
  have e : Below W1.heap.size W1 W := by rw [hW]; exact (((Below.refl _ _).alloc (Nat.le_refl _) _).alloc (by simp) _).drew
  refine ⟨D.below e, by rw [hW]; exact ((ho.alloc _).alloc _).drew, fun j u hj => ?_, hb.trans (e.mono hb.size)⟩
  have hh : W.heap[W1.heap.size + 1]? = some (.cells #[x, y] 111 (0, 0)) := by
    rw [hW]
    have := heap_alloc_new (W1.alloc (.cells #[x, y] 111)) (.cells #[x, y] 111)
    rw [World.size_alloc] at this
    exact this
  have hc := fun i => cell_of_row W (W1.heap.size + 1) i _ _ _ hh
  match j, hj with
  | 0, hj => simp at hj; subst hj; exact (hc 0)
  | 1, hj => simp at hj; subst hj; exact (hc 1)
theorem KeepAt.after [Spare] {w W w2 : World} {base : Nat} {M : DM} {S : DS} {vs : List Value} {x y : Value} {g : Nat} (h : KeepAt w W base M S vs x y g) (hg : W.grownBy w2 M.vl.ownBlock) :
    w2.cell? ⟨M.p, 3, none⟩ = some M.vl ∧ w2.frozen? ⟨M.p, 3, none⟩ = false := by
  have hne : some M.p ≠ M.vl.ownBlock := by
    intro e
    rcases h.own.2 with ⟨hv, _⟩ | ⟨g, cap, cur, hv, _, hh, _⟩
    · rw [hv] at e; cases e
    · rw [hv] at e
      simp only [Value.ownBlock, Option.some.injEq] at e
      exact type_ne h.d.hp hh (by decide) e
  have hp := hg.block M.p (Array.getElem?_eq_some_iff.1 h.d.hp).1 hne
  exact ⟨(World.cell?_of_block (w := W) (a := ⟨M.p, 3, none⟩) hp).trans h.d.c3, (World.frozen?_of_block (w := W) (a := ⟨M.p, 3, none⟩) hp).trans (h.d.frozen 3)⟩

theorem looseCells_snoc : ∀ (ls : List (Nat × (Nat → Nat))) (vs : List Value) (x : Nat × (Nat → Nat)) (y : Value), vs.length = ls.length → looseCells (ls ++ [x]) (vs ++ [y]) = looseCells ls vs ++ [.int .i64 (x.1 : Int), y]
  | [], [], _, _, _ => rfl
  | a :: ls, v :: vs, x, y, h => by
    have := looseCells_snoc ls vs x y (by simpa using h)
    simp only [List.cons_append, looseCells, this]
  | [], _ :: _, _, _, h => by simp at h
  | _ :: _, [], _, _, h => by simp at h

/-- The disk behind the append and the store of its result. -/
theorem keep_loose [Spare] {W w2 : World} {base k g2 c2 : Nat} {M : DM} {S : DS} {vs : List Value} {y : Value} {F : Nat → Nat} (D : Dsk W base M S) (hown : W.ownsRow base 111 2 M.vl S.loose.length (looseCells S.loose vs)) (hvs : vs.length = S.loose.length)
    (hlo : ∀ (j : Nat) (v : Value) (x : Nat × (Nat → Nat)), vs[j]? = some v → S.loose[j]? = some x → x.1 < S.N ∧ SecN W base S.size v x.2) (hk : k < S.N) (hy : SecN W base S.size y F) (hL : S.loose.length < 1000000)
    (hg0 : W.grownBy w2 M.vl.ownBlock) (ho : w2.ownsRow base 111 2 (.slice (some ⟨g2, 0, none⟩) (S.loose.length + 1) c2) (S.loose.length + 1) (looseCells S.loose vs ++ [.int .i64 (k : Int), y])) :
    Dsk (w2.setCell ⟨M.p, 3, none⟩ (.slice (some ⟨g2, 0, none⟩) (S.loose.length + 1) c2)) base { M with vl := .slice (some ⟨g2, 0, none⟩) (S.loose.length + 1) c2 } { S with loose := S.loose ++ [(k, F)] } ∧
    KeepB base W (w2.setCell ⟨M.p, 3, none⟩ (.slice (some ⟨g2, 0, none⟩) (S.loose.length + 1) c2)) := by
  have lt : ∀ {j : Nat} {o : Obj}, W.heap[j]? = some o → j < W.heap.size := fun e => (Array.getElem?_eq_some_iff.1 e).1
  have other : ∀ {j : Nat} {cs : Array Value} {t : TypeId}, W.heap[j]? = some (.cells cs t (0, 0)) → t ≠ 111 → w2.heap[j]? = W.heap[j]? := fun {j cs t} e ht => by
    refine hg0.block j (lt e) fun q => ?_
    rcases hown.2 with ⟨hv, _⟩ | ⟨g, cap, cur, hv, _, hh, _⟩
    · rw [hv] at q; cases q
    · rw [hv] at q
      simp only [Value.ownBlock, Option.some.injEq] at q
      exact type_ne e hh ht q
  have hp2 : w2.heap[M.p]? = some (.cells (diskCells M S) 78 (0, 0)) := (other D.hp (by decide)).trans D.hp
  have kb : KeepB base W (w2.setCell ⟨M.p, 3, none⟩ (.slice (some ⟨g2, 0, none⟩) (S.loose.length + 1) c2)) := fun g cs _ hh => by
    have e := (other hh (by decide)).trans hh
    rw [Below.heap_setCell w2 ⟨M.p, 3, none⟩ _ g (type_ne e hp2 (by decide))]
    exact e
  obtain ⟨V, ⟨c, cv, cn, cc⟩, v2⟩ := D.vf
  obtain ⟨U, ⟨c', cv', cn', cc'⟩, u2⟩ := D.vn
  have cvf := (other cv (by decide)).trans cv
  have cvn := (other cv' (by decide)).trans cv'
  have put : ∀ {j : Nat} {cs : Array Value} {t : TypeId}, w2.heap[j]? = some (.cells cs t (0, 0)) → t ≠ 78 → (w2.setCell ⟨M.p, 3, none⟩ (.slice (some ⟨g2, 0, none⟩) (S.loose.length + 1) c2)).heap[j]? = some (.cells cs t (0, 0)) := fun e ht => by
    rw [Below.heap_setCell w2 ⟨M.p, 3, none⟩ _ _ (type_ne e hp2 ht)]
    exact e
  refine ⟨⟨?_, D.bp, ⟨V, ⟨c, put cvf (by decide), cn, cc⟩, fun i hi => (v2 i hi).keep kb⟩, ⟨U, ⟨c', put cvn (by decide), cn', cc'⟩, fun i hi => (u2 i hi).keep kb⟩, D.bfn, D.bbf, D.bbn, ⟨vs ++ [y], by simp [hvs], ?_, ?_⟩, D.hN, D.hS, D.hA, by simp; omega, D.hC, fun g hg => D.hE g (by rw [size_set] at hg; exact Nat.le_trans hg0.size hg)⟩, kb⟩
  · exact heap_store w2 M.p 3 _ _ _ hp2
  · show World.ownsRow _ base 111 2 _ (S.loose ++ [(k, F)]).length (looseCells (S.loose ++ [(k, F)]) (vs ++ [y]))
    rw [looseCells_snoc _ _ _ _ hvs, List.length_append]
    refine ⟨ho.1, ?_⟩
    rcases ho.2 with ⟨h1, _⟩ | ⟨g, cap, cur, e1, e2, e3, e4⟩
    · cases h1
    · exact .inr ⟨g, cap, cur, e1, e2, put e3 (by decide), e4⟩
  · intro j v x hj hx
    show x.1 < S.N ∧ SecN _ base S.size v x.2
    rcases Nat.lt_or_ge j vs.length with h | h
    · rw [List.getElem?_append_left h] at hj
      have hx' : S.loose[j]? = some x := by
        have := hx
        simp only at this
        rw [List.getElem?_append_left (by omega)] at this
        exact this
      exact ⟨(hlo j v x hj hx').1, (hlo j v x hj hx').2.keep kb⟩
    · have hj2 : j = vs.length := by
        have := (List.getElem?_eq_some_iff.1 hj).1
        simp at this
        omega
      subst hj2
      simp at hj
      simp only [hvs] at hx
      simp at hx
      subst hj hx
      exact ⟨hk, hy.keep kb⟩

def keepS (S : DS) (k : Nat) (F : Nat → Nat) : DS := { S with loose := S.loose ++ [(k, F)], now := upd S.now k F }
def KeepPost [Spare] (k : Nat) (F : Nat → Nat) (base : Nat) (M : DM) (S : DS) (w : World) (e : Ending) (w' : World) : Prop :=
  e = .returned (.tuple #[]) ∧ ∃ v', Dsk w' base { M with vl := v' } (keepS S k F) ∧ Turns base M w w' ∧ KeepB base w w' ∧ (v'.ownBlock = M.vl.ownBlock ∨ ∃ g, v'.ownBlock = some g ∧ w.heap.size ≤ g)

set_option maxHeartbeats 1000000 in
theorem keep_any [Spare] (k b o c : Nat) (F : Nat → Nat) (w : World) (base : Nat) (M : DM) (S : DS) (h : Dsk w base M S) (hbase : base ≤ w.heap.size) (hk : k < S.N) (hL : S.loose.length < 1000000) (hb : Bytes w (some ⟨b, o, none⟩) S.size F) :
    Calls Try.prog 48 #[.pointer (some ⟨M.p, 0, none⟩), .int .i64 k, .slice (some ⟨b, o, none⟩) S.size c] w (KeepPost k F base M S w) := by
  have hS := h.hS
  go_enter Try.func48, Try.ntmps48
  go_wp2_with fail
  refine (clone_any b o S.size c F w hb (by omega)).mono ?_
  rintro e W1 ⟨B, d, rfl, o1, l1⟩
  have D1 := h.below l1
  have sv := o1.secV (by omega) h.hE
  obtain ⟨g1, hg1, _⟩ := o1.at_ (by omega)
  subst hg1
  have hc3 := D1.c3
  obtain ⟨vs, lv1, lv2, lv3⟩ := D1.lo
  obtain ⟨W2, hW2⟩ : ∃ W2, W2 = ((W1.alloc (.cells #[.int .i64 (k : Int), .slice (some ⟨g1, 0, none⟩) S.size d] 111)).alloc (.cells #[.int .i64 (k : Int), .slice (some ⟨g1, 0, none⟩) S.size d] 111)).drew := ⟨_, rfl⟩
  have KA := Lib.hid (KeepAt.make (x := .int .i64 (k : Int)) (y := .slice (some ⟨g1, 0, none⟩) S.size d) D1 lv2 l1 W2 hW2)
  have H1 : Hid (∀ u ∈ [Value.int .i64 (k : Int), .slice (some ⟨g1, 0, none⟩) S.size d], u.oneCell' = true) := Lib.hid fun u hu => by
    simp at hu
    rcases hu with rfl | rfl <;> rfl
  have HW2 := Lib.hid hW2
  have HLV := Lib.hid lv3
  have hz := l1.size
  have hz2 : base ≤ W2.heap.size := by rw [hW2]; simp; omega
  obtain ⟨i0, hi0, hz0, hz1, hz3⟩ := info_parts writeinfo
  have hcA := (D1.below ((Below.refl W1.heap.size W1).alloc (Nat.le_refl _) (.cells #[.int .i64 (k : Int), .slice (some ⟨g1, 0, none⟩) S.size d] 111))).c3
  have hcB := (D1.below (((Below.refl W1.heap.size W1).alloc (Nat.le_refl _) (.cells #[.int .i64 (k : Int), .slice (some ⟨g1, 0, none⟩) S.size d] 111)).alloc (by simp) (.cells #[.int .i64 (k : Int), .slice (some ⟨g1, 0, none⟩) S.size d] 111))).c3
  clear o1 hb lv2 lv3 hW2
  go_wp2
  go_region_law (refine step_append_own rfl (.tmp 16) (.tmp 18) 76 rfl base 111 i0 (.agg #[.int .i64 0, .slice none 0 0]) 2 32 Try.underlying76 hi0 hz0 hz1 hz3 rfl (by decide) M.vl S.loose.length (looseCells S.loose vs) rfl (by have := KA.out.own; rw [HW2.out] at this; exact this) ⟨W1.heap.size + 1, 0, none⟩ 1 1 [.int .i64 (k : Int), .slice (some ⟨g1, 0, none⟩) S.size d] rfl rfl (by have := KA.out.news; rw [HW2.out] at this; exact this) H1.out (by unfold maxLen; omega) (by omega) (by have := hz2; rw [HW2.out] at this; exact this) ?_; intro v2 w2 ho2 hg2 hb2 hs2; have hq2 := KA.out.after (by rw [HW2.out]; exact hg2.out); have hq3 := hq2.1; have hq4 := hq2.2; obtain ⟨g2, c2, hv2⟩ := hs2; obtain rfl := hv2.resolve_right (by omega))
  all_goals
    have G2 : W2.grownBy w2 M.vl.ownBlock := by rw [HW2.out]; exact hg2.out
    have e12 : Below W1.heap.size W1 W2 := by rw [HW2.out]; exact (((Below.refl _ _).alloc (Nat.le_refl _) _).alloc (by simp) _).drew
    have K3 := keep_loose KA.out.d KA.out.own lv1 (fun j v x hj hx => ⟨(HLV.out j v x hj hx).1, (HLV.out j v x hj hx).2.keep (keepB_below e12)⟩) hk ⟨(sv.lower hbase).keep (keepB_below e12), by intro q; cases q⟩ hL G2 ho2.out
    have hwb : W2.cell? ⟨W1.heap.size, 1, none⟩ = some (.slice (some ⟨g1, 0, none⟩) S.size d) := by rw [HW2.out]; simp
    obtain ⟨D3, kb3⟩ := K3
    have sv3 := ((sv.lower hbase).keep (keepB_below (base := base) e12)).keep kb3
    have hown1 : ∀ g, M.vl.ownBlock = some g → g < W1.heap.size := fun g hg => by
      obtain ⟨us, _, o2, _⟩ := D1.lo
      exact (o2.lt g hg).2
    have hzW : W2.heap.size = W1.heap.size + 1 + 1 := by rw [HW2.out]; simp
    have hp1 : M.p < W1.heap.size := (Array.getElem?_eq_some_iff.1 D1.hp).1
    have hwc : (w2.setCell ⟨M.p, 3, none⟩ (.slice (some ⟨g2, 0, none⟩) (S.loose.length + 1) c2)).cell? ⟨W1.heap.size, 1, none⟩ = some (.slice (some ⟨g1, 0, none⟩) S.size d) := by
      rw [World.cell?_setCell_other _ _ _ _ (fun e => by have := congrArg Addr.block e; simp at this; omega)]
      have hb' : w2.heap[W1.heap.size]? = W2.heap[W1.heap.size]? := G2.block W1.heap.size (by omega) (fun e => by have := hown1 _ e.symm; omega)
      exact (World.cell?_of_block (w := W2) (a := ⟨W1.heap.size, 1, none⟩) hb').trans hwb
    have t3 : Turns base M w (w2.setCell ⟨M.p, 3, none⟩ (.slice (some ⟨g2, 0, none⟩) (S.loose.length + 1) c2)) := by
      refine (Turns.of_below l1).trans ((Turns.of_below e12).trans (Turns.trans ⟨G2.os, G2.tape, G2.output, G2.size, fun j hj _ _ _ hv => G2.block j hj (fun e => hv e.symm)⟩ (Turns.store w2 3 _)))
    have kw3 : KeepB base w (w2.setCell ⟨M.p, 3, none⟩ (.slice (some ⟨g2, 0, none⟩) (S.loose.length + 1) c2)) := (keepB_below l1).trans ((keepB_below e12).trans kb3)
    have hb3 : (Value.slice (some ⟨g2, 0, none⟩) (S.loose.length + 1) c2).ownBlock = M.vl.ownBlock ∨ ∃ g, (Value.slice (some ⟨g2, 0, none⟩) (S.loose.length + 1) c2).ownBlock = some g ∧ w.heap.size ≤ g := by
      rcases hb2 with e | e
      · exact .inl e
      · refine .inr ⟨_, e, ?_⟩
        simp
        omega
    generalize w2.setCell ⟨M.p, 3, none⟩ (.slice (some ⟨g2, 0, none⟩) (S.loose.length + 1) c2) = W3 at D3 kb3 sv3 hwc t3 kw3 ⊢
    have hn2 := D3.c2
    obtain ⟨U, u1, _⟩ := D3.vn
    have hnk := u1.cell (i := k) (Nat.lt_of_lt_of_le hk D3.hC.1)
    have hcn := D3.hC.2
    have hnf := u1.frozen k
    obtain ⟨D4, kb4⟩ := D3.setNow (k := k) sv3
    have t4 : Turns base M W3 (W3.setCell ⟨M.bn, k, none⟩ (.slice (some ⟨g1, 0, none⟩) S.size d)) := ⟨rfl, rfl, rfl, by simp [World.setCell], fun j _ _ _ hj _ => Below.heap_setCell W3 ⟨M.bn, k, none⟩ _ j hj⟩
    have DD := Lib.hid D4
    have TT := Lib.hid (t3.trans t4)
    have KK := Lib.hid (kw3.trans kb4)
    have BB := Lib.hid hb3
    have hN := D3.hN
    clear D3 kb3 sv3 t3 kw3 hb3 D4 kb4 t4 G2 e12 hwb hown1 hzW hp1 u1 HLV KA H1 HW2 hz2 hz hcA hcB hq2 hq3 hq4 hb2 hg2 ho2 D1 l1 sv hi0 hz0 hz1 hz3 hc3 hv2
    go_wp2
    go_region
    all_goals
      go_end0
      exact ⟨rfl, _, DD.out.keep rfl rfl rfl (fun _ _ => rfl) (fun _ _ _ hg => hg) (Nat.le_refl _), ⟨TT.out.os, TT.out.tape, TT.out.output, TT.out.size, TT.out.block⟩, KK.out, BB.out⟩
end Go.Proofs.Ytmikemijdglgaaa
/- The contract of Write. -/
namespace Go.Proofs.Ytmikemijdglgaaa
open Go.RowKit

/-- What a call leaves of a disk: the state, where the loose writes lie now, what has turned. -/
def Left [Spare] (S' : DS) (base : Nat) (M : DM) (w w' : World) : Prop :=
  ∃ v', Dsk w' base { M with vl := v' } S' ∧ Turns base M w w' ∧ KeepB base w w' ∧ (v'.ownBlock = M.vl.ownBlock ∨ (∃ g, v'.ownBlock = some g ∧ w.heap.size ≤ g) ∨ v'.ownBlock = none)
theorem Left.refl [Spare] {w : World} {base : Nat} {M : DM} {S : DS} (h : Dsk w base M S) : Left S base M w w := ⟨M.vl, h, Turns.refl _ _ _, KeepB.refl _ _, .inl rfl⟩
theorem Turns.widen {base : Nat} {M : DM} {a b c : World} {v' : Value} (h : Turns base M a b) (k : Turns base { M with vl := v' } b c) (hv : v'.ownBlock = M.vl.ownBlock ∨ (∃ g, v'.ownBlock = some g ∧ a.heap.size ≤ g) ∨ v'.ownBlock = none) : Turns base M a c :=
  ⟨k.os.trans h.os, k.tape.trans h.tape, k.output.trans h.output, Nat.le_trans h.size k.size, fun i hi e1 e2 e3 e4 => (k.block i (Nat.lt_of_lt_of_le hi h.size) e1 e2 e3 (fun e => by
    rcases hv with q | ⟨g, q, hg⟩ | q
    · exact e4 (q ▸ e)
    · have e' : v'.ownBlock = some i := e
      rw [q] at e'
      injection e' with e'
      omega
    · have e' : v'.ownBlock = some i := e
      rw [q] at e'
      cases e')).trans (h.block i hi e1 e2 e3 e4)⟩
theorem Left.trans [Spare] {S2 : DS} {base : Nat} {M : DM} {a b c : World} {v' : Value} (hd : Turns base M a b) (hk : KeepB base a b) (hv : v'.ownBlock = M.vl.ownBlock ∨ (∃ g, v'.ownBlock = some g ∧ a.heap.size ≤ g) ∨ v'.ownBlock = none) (h2 : Left S2 base { M with vl := v' } b c) : Left S2 base M a c := by
  obtain ⟨v2, d2, t2, k2, o2⟩ := h2
  refine ⟨v2, d2, hd.widen t2 hv, hk.trans k2, ?_⟩
  rcases o2 with e | ⟨g, e, hg⟩ | e
  · have e' : v2.ownBlock = v'.ownBlock := e
    rw [e']; exact hv
  · exact .inr (.inl ⟨g, e, Nat.le_trans hd.size hg⟩)
  · exact .inr (.inr e)

theorem write_no [Spare] (at_ : Int) (v : Value) (w : World) (base : Nat) (M : DM) (S : DS) (h : Dsk w base M S) (hne : reachI S at_ ≠ 0) :
    Calls Try.prog 26 #[.pointer (some ⟨M.p, 0, none⟩), .int .i64 at_, v] w fun e w' => e = .returned (.int .i64 (reachI S at_)) ∧ w = w' := by
  have q : (reachI S at_ != 0) = true := by rw [bne_iff_ne]; exact hne
  clear hne
  go_enter Try.func26, Try.ntmps26
  go_wp2_with fail
  refine (reach_any at_ w base M S h).mono ?_
  rintro e w' ⟨rfl, rfl⟩
  go_wp2
  go_ret
  exact ⟨rfl, rfl⟩
theorem write_size [Spare] (at_ : Int) (A : Option Addr) (n c : Nat) (w : World) (base : Nat) (M : DM) (S : DS) (h : Dsk w base M S) (h0 : reachI S at_ = 0) (hn : n ≠ S.size) (_hm : n ≤ 9223372036854775807) :
    Calls Try.prog 26 #[.pointer (some ⟨M.p, 0, none⟩), .int .i64 at_, .slice A n c] w fun e w' => e = .returned (.int .i64 3) ∧ w = w' := by
  have R := Lib.hid h0
  have hc0 := h.c0
  have q : ((n : Int) != (S.size : Int)) = true := by rw [bne_iff_ne]; omega
  clear h0 hn
  go_enter Try.func26, Try.ntmps26
  go_wp2_with fail
  refine (reach_any at_ w base M S h).mono ?_
  rintro e w' ⟨rfl, rfl⟩
  rw [R.out]
  go_wp2
  go_ret
  exact ⟨rfl, rfl⟩
theorem write_ok [Spare] (k b o c : Nat) (F : Nat → Nat) (w : World) (base : Nat) (M : DM) (S : DS) (h : Dsk w base M S) (hbase : base ≤ w.heap.size) (hd : S.down = false) (hk : k < S.N) (hL : S.loose.length < 1000000) (hb : Bytes w (some ⟨b, o, none⟩) S.size F) :
    Calls Try.prog 26 #[.pointer (some ⟨M.p, 0, none⟩), .int .i64 k, .slice (some ⟨b, o, none⟩) S.size c] w fun e w' => e = .returned (.int .i64 (strikeI (keepS S k F))) ∧ Left (strikeS (keepS S k F)) base M w w' := by
  have R := Lib.hid (show reachI S k = 0 by unfold reachI; rw [if_neg (by rw [hd]; simp), if_neg (by omega)])
  have hc0 := h.c0
  have hS := h.hS
  have q : ((S.size : Int) != (S.size : Int)) = false := by simp
  clear hd
  go_enter Try.func26, Try.ntmps26
  go_wp2_with fail
  refine (reach_any k w base M S h).mono ?_
  rintro e w' ⟨rfl, rfl⟩
  rw [R.out]
  go_wp2_with fail
  refine (keep_any k b o c F w base M S h hbase hk hL hb).mono ?_
  rintro e w1 ⟨rfl, v1, d1, t1, k1, o1⟩
  have D1 := Lib.hid d1
  have T1 := Lib.hid t1
  have K1 := Lib.hid k1
  have O1 := Lib.hid o1
  clear d1 t1 k1 o1
  go_wp2_with fail
  refine (strike_any w1 base { M with vl := v1 } (keepS S k F) D1.out).mono ?_
  rintro e w2 ⟨rfl, d2, t2, k2⟩
  have LL : Left (strikeS (keepS S k F)) base M w w2 := Left.trans T1.out K1.out (O1.out.elim .inl fun q => .inr (.inl q)) ⟨v1, d2, t2, k2, .inl rfl⟩
  have HL := Lib.hid LL
  clear d2 t2 k2 LL
  go_wp2
  go_ret
  exact ⟨rfl, HL.out⟩
end Go.Proofs.Ytmikemijdglgaaa
/- The contract of settle: a write's first bytes are made fast. -/
namespace Go.Proofs.Ytmikemijdglgaaa
open Go.RowKit

theorem BRow.secV [Spare] {w : World} {base g n : Nat} {F : Nat → Nat} (h : BRow w g n F) (hb : base ≤ g) (hE : Spare.ok g) : SecV w base n (.slice (some ⟨g, 0, none⟩) n n) F := by
  obtain ⟨⟨c, h1, _, h3⟩, h4, h5⟩ := h
  exact ⟨h4, .inr ⟨g, n, c, rfl, Nat.le_refl _, h5, ⟨hb, hE⟩, h1, h3⟩⟩
def settleS (S : DS) (k done : Nat) (F : Nat → Nat) : DS := { S with fast := upd S.fast k (copyF (S.fast k) 0 done F) }
def SettlePost [Spare] (S' : DS) (base : Nat) (M : DM) (w : World) (e : Ending) (w' : World) : Prop := e = .returned (.tuple #[]) ∧ Dsk w' base M S' ∧ Turns base M w w' ∧ KeepB base w w'

set_option maxHeartbeats 1000000 in
theorem settle_any [Spare] (k done b o c : Nat) (F : Nat → Nat) (w : World) (base : Nat) (M : DM) (S : DS) (h : Dsk w base M S) (hbase : base ≤ w.heap.size) (hk : k < S.N) (hd : done ≤ S.size) (hb : Bytes w (some ⟨b, o, none⟩) S.size F) (hc : S.size ≤ c) :
    Calls Try.prog 55 #[.pointer (some ⟨M.p, 0, none⟩), .agg #[.int .i64 k, .slice (some ⟨b, o, none⟩) S.size c], .int .i64 done] w (SettlePost (settleS S k done F) base M w) := by
  have hN := h.hN
  have hS := h.hS
  obtain ⟨W, hW⟩ : ∃ W, W = w.alloc (.cells #[.int .i64 (k : Int), .slice (some ⟨b, o, none⟩) S.size c] 111) := ⟨_, rfl⟩
  have lW : Below w.heap.size w W := by rw [hW]; exact (Below.refl _ _).alloc (Nat.le_refl _) _
  have sW : W.heap.size = w.heap.size + 1 := by rw [hW]; simp
  have x0 : W.cell? ⟨w.heap.size, 0, none⟩ = some (.int .i64 (k : Int)) := by rw [hW]; simp
  have x1 : W.cell? ⟨w.heap.size, 1, none⟩ = some (.slice (some ⟨b, o, none⟩) S.size c) := by rw [hW]; simp
  have D := h.below lW
  have hc1 := D.c1
  obtain ⟨V, v1, v2⟩ := D.vf
  have hvk := v1.cell hk
  have sk := Lib.hid (v2 k hk)
  have hbW := Lib.hid (hb.below lW (Nat.le_refl _))
  have D0 := Lib.hid D
  have LW := Lib.hid lW
  have ltp : M.p < W.heap.size := (Array.getElem?_eq_some_iff.1 D.hp).1
  have ltf : M.bf < W.heap.size := v1.lt
  clear D v1 v2 lW hb
  go_enter Try.func55, Try.ntmps55
  go_wp2
  rw [← hW]
  have HW := Lib.hid hW
  clear hW
  go_region_held3 (fun w' => w'.cell? ⟨M.p, 1, none⟩ = some (.slice (some ⟨M.bf, 0, none⟩) S.N S.N) ∧ w'.cell? ⟨w.heap.size, 0, none⟩ = some (.int .i64 (k : Int)) ∧ w'.cell? ⟨M.bf, k, none⟩ = some (V k))
    (first | exact ⟨hc1, x0, hvk⟩ | exact ⟨(l1.cell (p := ⟨M.p, 1, none⟩) (by simp; omega)).trans hc1, (l1.cell (p := ⟨w.heap.size, 0, none⟩) (by simp; omega)).trans x0, (l1.cell (p := ⟨M.bf, k, none⟩) (by simp; omega)).trans hvk⟩ | go_keep)
    (first | (go_at_call 42; refine (whole_any (V k) (S.fast k) _ base M S (D0.out.below (below_drewN (Below.refl _ _) _)) (sk.out.keep (keepB_below (below_drewN (Below.refl _ _) _)))).mono ?_; rintro e w1 ⟨rfl, r1, l1⟩))
  have l1' : Below W.heap.size W w1 := ⟨l1.os, l1.tape, l1.output, l1.size, l1.block⟩
  have r1' : BRow w1 (w.heap.size + 1) S.size (S.fast k) := by rw [← sW]; exact r1
  have x1' : w1.cell? ⟨w.heap.size, 1, none⟩ = some (.slice (some ⟨b, o, none⟩) S.size c) := (l1'.cell (p := ⟨w.heap.size, 1, none⟩) (by simp; omega)).trans x1
  have hb1 := Lib.hid ((hbW.out.below l1' (Nat.le_refl _)).head done hd)
  have R1 := Lib.hid r1'
  have L1 := Lib.hid l1'
  clear l1 r1 l1' r1' x1 hc1 hvk
  go_wp2_with (with_reducible refine wpList_copy_bytes rfl (.tmp 18) (.tmp 22) 42 42 rfl Try.underlying42 u8size _ _ _ _ _ _ rfl rfl (w.heap.size + 1) 0 S.size done _ _ R1.out hb1.out ?e1 ?e2 ?e3 ?e4)
  case e1 => exact (Nat.min_eq_left hd).symm
  case e3 => omega
  case e4 =>
    intro w2 r2 g2
    have l2 : Below W.heap.size W w2 := L1.out.grown g2 L1.out.size (by rintro j ⟨⟩; omega)
    have D2 := D0.out.below l2
    have y0 := (l2.cell (p := ⟨w.heap.size, 0, none⟩) (by simp; omega)).trans x0
    have yc1 := D2.c1
    obtain ⟨V2, u1, _⟩ := D2.vf
    have yk := u1.cell hk
    have yf := u1.frozen k
    obtain ⟨D3, k3⟩ := D2.setFast (k := k) (r2.secV (base := base) (by omega) (h.hE _ (by omega)))
    have t3 : Turns base M w (w2.setCell ⟨M.bf, k, none⟩ (.slice (some ⟨w.heap.size + 1, 0, none⟩) S.size S.size)) :=
      (Turns.of_below LW.out).trans ((Turns.of_below l2).trans ⟨rfl, rfl, rfl, by simp [World.setCell], fun j _ _ hj _ _ => Below.heap_setCell w2 ⟨M.bf, k, none⟩ _ j hj⟩)
    have kk := (keepB_below (base := base) LW.out).trans ((keepB_below (base := base) l2).trans k3)
    have DD := Lib.hid D3
    have TT := Lib.hid t3
    have KK := Lib.hid kk
    clear D3 t3 kk k3 D2 u1 l2 g2 r2 R1 hb1 x0 x1'
    go_wp2
    go_region
    all_goals
      go_end0
      exact ⟨rfl, DD.out.keep rfl rfl rfl (fun _ _ => rfl) (fun _ _ _ hg => hg) (Nat.le_refl _), ⟨TT.out.os, TT.out.tape, TT.out.output, TT.out.size, TT.out.block⟩, KK.out⟩
  all_goals exact fun _ => rfl
end Go.Proofs.Ytmikemijdglgaaa
/- The contracts of chooser and of what it hands out: the fates, one a call. -/
namespace Go.Proofs.Ytmikemijdglgaaa
open Go.RowKit

/-- A slice of ints that can be read. -/
def Ints (w : World) (A : Option Addr) (n : Nat) (fa : Nat → Int) : Prop :=
  n ≤ 9223372036854775807 ∧ (∀ i, i < n → -9223372036854775808 ≤ fa i ∧ fa i ≤ 9223372036854775807) ∧ (0 < n → ∃ b o, A = some ⟨b, o, none⟩ ∧ ∀ i, i < n → w.cell? ⟨b, o + i, none⟩ = some (.int .i64 (fa i)))
theorem Ints.keep {w w' : World} {A : Option Addr} {n : Nat} {fa : Nat → Int} (h : Ints w A n fa) (k : ∀ b o, A = some ⟨b, o, none⟩ → 0 < n → w'.heap[b]? = w.heap[b]?) : Ints w' A n fa :=
  ⟨h.1, h.2.1, fun hn => by
    obtain ⟨b, o, rfl, hc⟩ := h.2.2 hn
    exact ⟨b, o, rfl, fun i hi => (World.cell?_of_block (w := w) (a := ⟨b, o + i, none⟩) (k b o rfl hn)).trans (hc i hi)⟩⟩
theorem Ints.blk {w : World} {A : Option Addr} {n : Nat} {fa : Nat → Int} (h : Ints w A n fa) : ∀ b o, A = some ⟨b, o, none⟩ → 0 < n → b < w.heap.size := by
  rintro b o rfl hn
  obtain ⟨b', o', e, hc⟩ := h.2.2 hn
  injection e with e
  injection e with e1 e2
  subst e1
  have := hc 0 hn
  rcases Nat.lt_or_ge b w.heap.size with hlt | hge
  · exact hlt
  · rw [World.cell?, Array.getElem?_eq_none hge] at this
    cases this

/-- The k-th choice of n. -/
def choiceN (fa : Nat → Int) (L i n : Nat) : Nat := if i < L then (fa i % (n : Int)).toNat else 0
def nextN (L i : Nat) : Nat := if i < L then i + 1 else i

theorem tmod_as (x : Int) (n : Nat) (hn : 1 ≤ n) : x % (n : Int) = if x.tmod (n : Int) < 0 then x.tmod (n : Int) + n else x.tmod (n : Int) := by
  have h1 := Int.tmod_eq_emod (a := x) (b := (n : Int))
  have h2 := Int.emod_nonneg x (show (n : Int) ≠ 0 by omega)
  have h3 := Int.emod_lt_of_pos x (show (0 : Int) < n by omega)
  by_cases h : 0 ≤ x ∨ (n : Int) ∣ x
  · rw [if_pos h] at h1
    split <;> omega
  · rw [if_neg h] at h1
    have h4 : ((n : Int).natAbs : Int) = n := by omega
    split <;> omega
theorem wrap_fate (x : Int) (n : Nat) (hn : 1 ≤ n) (hn2 : n ≤ 1000000) (h : x.tmod (n : Int) < 0) : wrap64 (x.tmod (n : Int) + n) = (((x % (n : Int)).toNat : Nat) : Int) := by
  have e := tmod_as x n hn
  rw [if_pos h] at e
  have h2 := Int.emod_nonneg x (show (n : Int) ≠ 0 by omega)
  have h3 := Int.emod_lt_of_pos x (show (0 : Int) < n by omega)
  rw [← e]
  unfold wrap64
  omega
theorem fate_pos (x : Int) (n : Nat) (hn : 1 ≤ n) (h : 0 ≤ x.tmod (n : Int)) : x.tmod (n : Int) = (((x % (n : Int)).toNat : Nat) : Int) := by
  have e := tmod_as x n hn
  rw [if_neg (by omega)] at e
  have h2 := Int.emod_nonneg x (show (n : Int) ≠ 0 by omega)
  omega

theorem choose_any (A : Option Addr) (L c i n p q : Nat) (fa : Nat → Int) (w : World) (h : Ints w A L fa) (hi : i ≤ L) (hn : 1 ≤ n) (hn2 : n ≤ 1000000) (hb0 : w.heap[p]? = some (.cells #[.int .i64 i] 3 (0, 0))) (hq : w.cell? ⟨q, 0, none⟩ = some (.slice A L c)) :
    Calls Try.prog 67 #[.int .i64 n, .pointer (some ⟨p, 0, none⟩), .pointer (some ⟨q, 0, none⟩)] w fun e w' =>
      e = .returned (.int .i64 (choiceN fa L i n)) ∧ w'.heap[p]? = some (.cells #[.int .i64 (nextN L i)] 3 (0, 0)) ∧ w.grownBy w' (some p) := by
  have hp : w.cell? ⟨p, 0, none⟩ = some (.int .i64 i) := cell_of_row w p 0 _ _ _ hb0
  have hf : w.frozen? ⟨p, 0, none⟩ = false := by simp [World.frozen?, hb0]
  have HB := Lib.hid hb0
  clear hb0
  obtain ⟨h1, h2, h3⟩ := h
  by_cases hlt : i < L
  · obtain ⟨b, o, rfl, hc⟩ := h3 (by omega)
    have hci := hc i hlt
    have hb := h2 i hlt
    have hne : ((i : Int) == (L : Int)) = false := by simp; omega
    have C := Lib.hid (show choiceN fa L i n = (fa i % (n : Int)).toNat from if_pos hlt)
    have NX := Lib.hid (show nextN L i = i + 1 from if_pos hlt)
    obtain ⟨x, hx⟩ : ∃ x, x = fa i := ⟨_, rfl⟩
    rw [← hx] at hci hb
    have HX := Lib.hid hx
    clear h2 h3 hc hx
    go_enter Try.func67, Try.ntmps67
    go_wp2
    · rename_i hneg
      have hz : wrap64 (x.tmod (n : Int) + n) = ((choiceN fa L i n : Nat) : Int) := by
        rw [C.out, ← HX.out]; exact wrap_fate x n hn hn2 hneg
      rw [hz]
      go_ret
      exact ⟨rfl, by rw [NX.out]; exact heap_store w p 0 _ _ _ HB.out, grownBy_setCell' w p _⟩
    · rename_i hneg
      have hz : x.tmod (n : Int) = ((choiceN fa L i n : Nat) : Int) := by
        rw [C.out, ← HX.out]; exact fate_pos x n hn hneg
      rw [hz]
      go_ret
      exact ⟨rfl, by rw [NX.out]; exact heap_store w p 0 _ _ _ HB.out, grownBy_setCell' w p _⟩
  · have C := Lib.hid (show choiceN fa L i n = 0 from if_neg hlt)
    have NX := Lib.hid (show nextN L i = i from if_neg hlt)
    have hne : ((i : Int) == (L : Int)) = true := by simp; omega
    clear h2 h3
    go_enter Try.func67, Try.ntmps67
    go_wp2
    go_ret
    exact ⟨by rw [C.out]; rfl, by rw [NX.out]; exact HB.out, World.grownBy.refl w _⟩
end Go.Proofs.Ytmikemijdglgaaa
/- The contract of Flush. -/
namespace Go.Proofs.Ytmikemijdglgaaa
open Go.RowKit

theorem flush_down [Spare] (w : World) (base : Nat) (M : DM) (S : DS) (h : Dsk w base M S) (hd : S.down = true) :
    Calls Try.prog 52 #[.pointer (some ⟨M.p, 0, none⟩)] w fun e w' => e = .returned (.int .i64 4) ∧ w = w' := by
  have hc5 := h.c5
  rw [hd] at hc5
  go_enter Try.func52, Try.ntmps52
  go_wp2
  go_ret
  exact ⟨rfl, rfl⟩

/-- What is fast after the first j loose writes. -/
def fastTo (f : Nat → Nat → Nat) (l : List (Nat × (Nat → Nat))) : Nat → Nat → Nat := l.foldl (fun f x => upd f x.1 x.2) f
def flushS (S : DS) : DS := { strikeS S with fast := fastTo S.fast S.loose, loose := [] }

theorem flush_no [Spare] (w : World) (base : Nat) (M : DM) (S : DS) (h : Dsk w base M S) (hd : S.down = false) (hs : strikeI S = 4) :
    Calls Try.prog 52 #[.pointer (some ⟨M.p, 0, none⟩)] w fun e w' => e = .returned (.int .i64 4) ∧ Dsk w' base M (strikeS S) ∧ Turns base M w w' ∧ KeepB base w w' := by
  have hc5 := h.c5
  rw [hd] at hc5
  have R := Lib.hid hs
  clear hs
  go_enter Try.func52, Try.ntmps52
  go_wp2_with fail
  refine (strike_any w base M S h).mono ?_
  rintro e w1 ⟨rfl, d1, t1, k1⟩
  rw [R.out]
  have D1 := Lib.hid d1
  have T1 := Lib.hid t1
  have K1 := Lib.hid k1
  clear d1 t1 k1
  go_wp2
  go_ret
  exact ⟨rfl, D1.out, T1.out, K1.out⟩

theorem strikeS_loose (S : DS) : (strikeS S).loose = S.loose := by unfold strikeS; split <;> (try split) <;> rfl
theorem strikeS_N (S : DS) : (strikeS S).N = S.N := by unfold strikeS; split <;> (try split) <;> rfl
theorem strikeS_size (S : DS) : (strikeS S).size = S.size := by unfold strikeS; split <;> (try split) <;> rfl
theorem strikeS_fast (S : DS) : (strikeS S).fast = S.fast := by unfold strikeS; split <;> (try split) <;> rfl
theorem strikeS_now (S : DS) : (strikeS S).now = S.now := by unfold strikeS; split <;> (try split) <;> rfl

/-- One loose write in memory. -/
theorem looseCells_get : ∀ (l : List (Nat × (Nat → Nat))) (vs : List Value) (j : Nat) (x : Nat × (Nat → Nat)) (v : Value), l[j]? = some x → vs[j]? = some v → (looseCells l vs)[j * 2]? = some (.int .i64 (x.1 : Int)) ∧ (looseCells l vs)[j * 2 + 1]? = some v
  | [], _, j, x, v, h, _ => by simp at h
  | _ :: _, [], j, x, v, _, h => by simp at h
  | y :: r, u :: vs, 0, x, v, h, k => by
    simp at h k
    subst h k
    exact ⟨rfl, rfl⟩
  | y :: r, u :: vs, j + 1, x, v, h, k => by
    have := looseCells_get r vs j x v (by simpa using h) (by simpa using k)
    rw [show (j + 1) * 2 = j * 2 + 1 + 1 by omega, show (j * 2 + 1 + 1 + 1) = (j * 2 + 1) + 1 + 1 by omega]
    exact this
theorem SecV.isSlice [Spare] {w : World} {base size : Nat} {v : Value} {F : Nat → Nat} (h : SecV w base size v F) : ∃ A n c, v = .slice A n c := by
  rcases h.2 with ⟨h2, _⟩ | ⟨g, c, _, h2, _⟩
  · exact ⟨_, _, _, h2⟩
  · exact ⟨_, _, _, h2⟩
theorem Dsk.looseAt [Spare] {w : World} {base : Nat} {M : DM} {S : DS} (h : Dsk w base M S) (j : Nat) (hj : j < S.loose.length) :
    ∃ g c x v, M.vl = .slice (some ⟨g, 0, none⟩) S.loose.length c ∧ base ≤ g ∧ g < w.heap.size ∧ S.loose[j]? = some x ∧ w.cell? ⟨g, j * 2, none⟩ = some (.int .i64 (x.1 : Int)) ∧ w.cell? ⟨g, j * 2 + 1, none⟩ = some v ∧ x.1 < S.N ∧ SecN w base S.size v x.2 ∧ ∀ i, w.frozen? ⟨g, i, none⟩ = false := by
  obtain ⟨vs, l1, l2, l3⟩ := h.lo
  rcases l2.2 with ⟨_, h3⟩ | ⟨g, c, cur, a1, a2, a3, a4, a5, a6, a7⟩
  · omega
  · have e1 := List.getElem?_eq_getElem hj
    have e2 := List.getElem?_eq_getElem (show j < vs.length by omega)
    obtain ⟨b1, b2⟩ := looseCells_get _ _ _ _ _ e1 e2
    have f := fun i => cell_of_row w g i _ _ _ a3
    have tk : ∀ i, i < S.loose.length * 2 → (looseCells S.loose vs)[i]? = cur[i]? := fun i hi => by
      rw [← a7, List.getElem?_take_of_lt hi, Array.getElem?_toList]
    have q := l3 j _ _ e2 e1
    exact ⟨g, c, _, _, a1, a2, (Array.getElem?_eq_some_iff.1 a3).1, e1, by rw [f, ← tk _ (by omega)]; exact b1, by rw [f, ← tk _ (by omega)]; exact b2, q.1, q.2, fun i => by simp [World.frozen?, a3]⟩

/-- The loose writes go. -/
theorem Dsk.noLoose [Spare] {w : World} {base : Nat} {M : DM} {S : DS} (h : Dsk w base M S) : Dsk (w.setCell ⟨M.p, 3, none⟩ (.slice none 0 0)) base { M with vl := .slice none 0 0 } { S with loose := [] } := by
  obtain ⟨V, v1, v2⟩ := h.vf
  obtain ⟨U, u1, u2⟩ := h.vn
  have hb : KeepB base w (w.setCell ⟨M.p, 3, none⟩ (.slice none 0 0)) := keepB_store h.hp (by decide)
  have nf : M.bf ≠ M.p := by obtain ⟨c, hc, _⟩ := v1; exact type_ne hc h.hp (by decide)
  have nn : M.bn ≠ M.p := by obtain ⟨c, hc, _⟩ := u1; exact type_ne hc h.hp (by decide)
  refine ⟨?_, h.bp, ⟨V, v1.setOther nf _, fun j hj => (v2 j hj).keep hb⟩, ⟨U, u1.setOther nn _, fun j hj => (u2 j hj).keep hb⟩, h.bfn, h.bbf, h.bbn, ⟨[], rfl, ⟨rfl, .inl ⟨rfl, rfl⟩⟩, fun j v x hj _ => by simp at hj⟩, h.hN, h.hS, h.hA, by simp, h.hC, fun g hg => h.hE g (by rw [size_set] at hg; exact hg)⟩
  show (w.setCell ⟨M.p, 3, none⟩ (.slice none 0 0)).heap[M.p]? = _
  rw [heap_store w _ _ _ _ _ h.hp]
  rfl

theorem flush_ok [Spare] (w : World) (base : Nat) (M : DM) (S : DS) (h : Dsk w base M S) (hd : S.down = false) (hs : strikeI S = 0) :
    Calls Try.prog 52 #[.pointer (some ⟨M.p, 0, none⟩)] w fun e w' => e = .returned (.int .i64 0) ∧ Dsk w' base { M with vl := .slice none 0 0 } (flushS S) ∧ Turns base M w w' ∧ KeepB base w w' := by
  have hc5 := h.c5
  rw [hd] at hc5
  have R := Lib.hid hs
  clear hs
  go_enter Try.func52, Try.ntmps52
  go_wp2_with fail
  refine (strike_any w base M S h).mono ?_
  rintro e w1 ⟨rfl, d1, t1, k1⟩
  rw [R.out]
  have hc3 := d1.c3
  obtain ⟨n, c, A, hv⟩ : ∃ n c A, M.vl = .slice A n c ∧ n = S.loose.length := by
    obtain ⟨vs, l1, l2, l3⟩ := d1.lo
    rw [strikeS_loose] at l1 l2
    rcases l2.2 with ⟨h2, h3⟩ | ⟨g, cap, cur, a1, a2, a3, a4⟩
    · exact ⟨0, 0, none, h2, by omega⟩
    · exact ⟨_, _, _, a1, rfl⟩
  rw [hv.1] at hc3
  obtain ⟨hv1, hv2⟩ := hv
  have D1 := Lib.hid d1
  have T1 := Lib.hid t1
  have K1 := Lib.hid k1
  have hL := h.hL
  have hLL := strikeS_loose S
  clear d1 t1 k1
  subst hv2
  go_wp2
  go_loopw [21] (fun i wr => ∃ k : Nat, k ≤ S.loose.length ∧ i = .int .i64 k ∧ Dsk wr base M { strikeS S with fast := fastTo S.fast (S.loose.take k) } ∧ Turns base M w wr ∧ KeepB base w wr) (fun i _ => S.loose.length - (intOf i).toNat)
  case atStart =>
    refine ⟨0, Nat.zero_le _, rfl, ?_, T1.out, K1.out⟩
    have := D1.out
    rw [List.take_zero, show fastTo S.fast [] = (strikeS S).fast from (strikeS_fast S).symm]
    exact this
  case round =>
    obtain ⟨k, hk, rfl, hD, hT, hK⟩ := hrel
    by_cases hlt : k < S.loose.length
    · obtain ⟨g, c', x, v, e1, e2, e3, e4, e5, e6, e7, e8, e0⟩ := hD.looseAt k (by show k < (strikeS S).loose.length; rw [strikeS_loose]; exact hlt)
      rw [hv1] at e1
      injection e1 with e1 q1 q2
      subst e1
      clear q1 q2
      obtain ⟨a1, a2, a3, rfl⟩ := e8.1.isSlice
      have y1 := hD.c1
      have yf1 := hD.frozen 1
      have ltp : M.p < wr.heap.size := (Array.getElem?_eq_some_iff.1 hD.hp).1
      obtain ⟨V, v1, _⟩ := id hD.vf
      have ltf : M.bf < wr.heap.size := v1.lt
      have z1 := v1.cell e7
      have z2 := v1.frozen x.1
      have e7' : x.1 < S.N := by rw [← strikeS_N]; exact e7
      rw [strikeS_N] at y1
      have hN := h.hN
      have f5 : wr.frozen? ⟨g, k * 2, none⟩ = false ∧ wr.frozen? ⟨g, k * 2 + 1, none⟩ = false := ⟨e0 _, e0 _⟩
      obtain ⟨D3, k3⟩ := hD.setFast (k := x.1) e8.1
      have t3 : Turns base M wr (wr.setCell ⟨M.bf, x.1, none⟩ (.slice a1 a2 a3)) := ⟨rfl, rfl, rfl, by simp [World.setCell], fun j _ _ hj _ _ => Below.heap_setCell _ ⟨M.bf, x.1, none⟩ _ j hj⟩
      have D4 : Dsk (wr.setCell ⟨M.bf, x.1, none⟩ (.slice a1 a2 a3)) base M { strikeS S with fast := fastTo S.fast (S.loose.take (k + 1)) } := by
        have q : fastTo S.fast (S.loose.take (k + 1)) = upd (fastTo S.fast (S.loose.take k)) x.1 x.2 := by
          have e4' : S.loose[k]? = some x := by rw [← hLL]; exact e4
          rw [List.take_add_one, e4']
          unfold fastTo
          rw [List.foldl_append]
          rfl
        rw [q]
        exact D3
      have lW : Below _ _ (((wr.setCell ⟨M.bf, x.1, none⟩ (.slice a1 a2 a3)).alloc (.cells #[.int .i64 (x.1 : Int), .slice a1 a2 a3] 111)).drew) := ((Below.refl (wr.setCell ⟨M.bf, x.1, none⟩ (.slice a1 a2 a3)).heap.size (wr.setCell ⟨M.bf, x.1, none⟩ (.slice a1 a2 a3))).alloc (Nat.le_refl _) _).drew
      have DD := Lib.hid (D4.below lW)
      have TT := Lib.hid (hT.trans (t3.trans (Turns.of_below lW)))
      have KK := Lib.hid (hK.trans (k3.trans (keepB_below (base := base) lW)))
      clear D3 D4 t3 k3 hD hT hK lW v1 e8
      go_wp2
      go_region
      go_wp2
      go_roundw
      case rel =>
        exact ⟨k + 1, by omega, by go_num, DD.out, TT.out, KK.out⟩
      case measure => simp [intOf]; omega
    · obtain rfl : k = S.loose.length := by omega
      rw [List.take_length] at hD
      have y3 := hD.c3
      have f3 := hD.frozen 3
      have D2 := Lib.hid hD.noLoose
      have t2 : Turns base M w _ := hT.trans (Turns.store wr 3 (.slice none 0 0))
      have k2 := hK.trans (keepB_store (i := 3) (v := .slice none 0 0) hD.hp (by decide))
      have T2 := Lib.hid t2
      have K2 := Lib.hid k2
      clear t2 k2 hT hK hD
      go_wp2
      go_ret
      exact ⟨rfl, D2.out, T2.out, K2.out⟩
end Go.Proofs.Ytmikemijdglgaaa
/- The contract of Crash. -/
namespace Go.Proofs.Ytmikemijdglgaaa
open Go.RowKit

theorem chooser_any (A : Option Addr) (L c : Nat) (w : World) : Calls Try.prog 54 #[.slice A L c] w fun e w' =>
    e = .returned (.func (Fn.func 67) #[] #[.pointer (some ⟨w.heap.size + 1, 0, none⟩), .pointer (some ⟨w.heap.size, 0, none⟩)]) ∧ w' = (w.alloc (.cells #[.slice A L c] 67)).alloc (.cells #[.int .i64 0] 3) := by
  go_enter Try.func54, Try.ntmps54
  go_wp2
  go_ret
  exact ⟨rfl, rfl⟩

/-- What is fast, and the next fate, after the first j loose writes of a crash. -/
def crashTo (S : DS) (fa : Nat → Int) (L : Nat) : Nat → (Nat → Nat → Nat) × Nat
  | 0 => (S.fast, 0)
  | j + 1 =>
    let p := crashTo S fa L j
    match S.loose[j]? with
    | none => p
    | some x => if j + 1 = S.loose.length then (upd p.1 x.1 (copyF (p.1 x.1) 0 (choiceN fa L p.2 (S.size + 1)) x.2), nextN L p.2)
      else (if choiceN fa L p.2 2 = 1 then upd p.1 x.1 (copyF (p.1 x.1) 0 S.size x.2) else p.1, nextN L p.2)
def nowTo (f now : Nat → Nat → Nat) (l : List (Nat × (Nat → Nat))) : Nat → Nat → Nat := l.foldl (fun n x => upd n x.1 (f x.1)) now
def crashS (S : DS) (fa : Nat → Int) (L : Nat) : DS := { S with fast := (crashTo S fa L S.loose.length).1, now := nowTo (crashTo S fa L S.loose.length).1 S.now S.loose, loose := [], armed := 0, down := false }

theorem choiceN_lt (fa : Nat → Int) (L i n : Nat) (hn : 1 ≤ n) : choiceN fa L i n < n := by
  unfold choiceN
  have h1 := Int.emod_nonneg (fa i) (show (n : Int) ≠ 0 by omega)
  have h2 := Int.emod_lt_of_pos (fa i) (show (0 : Int) < n by omega)
  split <;> omega
theorem SecN.isOwn [Spare] {w : World} {base size : Nat} {v : Value} {F : Nat → Nat} (h : SecN w base size v F) : ∃ g c, v = .slice (some ⟨g, 0, none⟩) size c ∧ size ≤ c := by
  rcases h.1.2 with ⟨h2, _⟩ | ⟨g, c, _, h2, h3, _⟩
  · exact absurd h2 h.2
  · exact ⟨_, _, h2, h3⟩
theorem SecN.bytes [Spare] {w : World} {base size g c : Nat} {F : Nat → Nat} (h : SecN w base size (.slice (some ⟨g, 0, none⟩) size c) F) : Bytes w (some ⟨g, 0, none⟩) size F := by
  rcases h.1.2 with ⟨h2, _⟩ | ⟨g', c', cs, h2, h3, h4, h5, h6, h7⟩
  · cases h2
  · injection h2 with q1 q2 q3
    injection q1 with q1
    injection q1 with q1
    subst q1
    exact ⟨by omega, h.1.1, fun _ => ⟨g, 0, rfl, fun i hi => (cell_of_row w g (0 + i) _ _ _ h6).trans (by rw [Nat.zero_add]; exact h7 i hi)⟩⟩
/-- A call that turns the fates' counter alone. -/
theorem Dsk.grown [Spare] {w w' : World} {base p : Nat} {i : Int} {M : DM} {S : DS} (h : Dsk w base M S) (hp : w.heap[p]? = some (.cells #[.int .i64 i] 3 (0, 0))) (ha : p ≠ M.p ∧ p ≠ M.bf ∧ p ≠ M.bn ∧ M.vl.ownBlock ≠ some p) (g : w.grownBy w' (some p)) : Dsk w' base M S ∧ KeepB base w w' := by
  have lt : ∀ {k : Nat} {o : Obj}, w.heap[k]? = some o → k < w.heap.size := fun e => (Array.getElem?_eq_some_iff.1 e).1
  obtain ⟨V, v1, _⟩ := h.vf
  obtain ⟨U, u1, _⟩ := h.vn
  obtain ⟨vs, _, l2, _⟩ := h.lo
  have ne : ∀ {k : Nat}, k ≠ p → some k ≠ some p := fun a b => a (by injection b)
  have kb : KeepB base w w' := fun j cs _ hj => (g.block j (lt hj) (ne (type_ne hj hp (by decide)))).trans hj
  exact ⟨h.keep (g.block _ (lt h.hp) (ne ha.1.symm)) (g.block _ v1.lt (ne ha.2.1.symm)) (g.block _ u1.lt (ne ha.2.2.1.symm)) (fun k hk => g.block k (l2.lt k hk).2 (ne fun e => ha.2.2.2 (by rw [hk, e]))) kb g.size, kb⟩

/-- What holds at a round of the first loop. -/
structure CI [Spare] (A : Option Addr) (L c : Nat) (fa : Nat → Int) (base : Nat) (M : DM) (S : DS) (w wr : World) (k : Nat) : Prop where
  d : Dsk wr base M { S with fast := (crashTo S fa L k).1 }
  t : Turns base M w wr
  kb : KeepB base w wr
  le : (crashTo S fa L k).2 ≤ L
  nx : wr.heap[w.heap.size + 1]? = some (.cells #[.int .i64 (crashTo S fa L k).2] 3 (0, 0))
  bx : wr.cell? ⟨w.heap.size, 0, none⟩ = some (.slice A L c)
theorem Dsk.away [Spare] {w : World} {base : Nat} {M : DM} {S : DS} (h : Dsk w base M S) (b : Nat) (hb : b < base ∨ w.heap.size ≤ b) : b ≠ M.p ∧ b ≠ M.bf ∧ b ≠ M.bn ∧ M.vl.ownBlock ≠ some b := by
  obtain ⟨V, v1, _⟩ := h.vf
  obtain ⟨U, u1, _⟩ := h.vn
  obtain ⟨vs, _, l2, _⟩ := h.lo
  have a1 := (Array.getElem?_eq_some_iff.1 h.hp).1
  have a2 := v1.lt
  have a3 := u1.lt
  have a4 := h.bp
  have a5 := h.bbf
  have a6 := h.bbn
  refine ⟨by omega, by omega, by omega, fun e => ?_⟩
  have := l2.lt b e
  omega
/-- The fates lie in none of the disk's blocks. -/
def ApartI (A : Option Addr) (L : Nat) (M : DM) : Prop := 0 < L → ∀ b o, A = some ⟨b, o, none⟩ → b ≠ M.p ∧ b ≠ M.bf ∧ b ≠ M.bn ∧ M.vl.ownBlock ≠ some b
theorem Ints.turns {w w' : World} {A : Option Addr} {n base : Nat} {fa : Nat → Int} {M : DM} (h : Ints w A n fa) (hA : ApartI A n M) (t : Turns base M w w') : Ints w' A n fa :=
  h.keep fun b o e hn => by
    obtain ⟨a1, a2, a3, a4⟩ := hA hn b o e
    exact t.block b (h.blk b o e hn) a1 a2 a3 a4

theorem Turns.fates {base p : Nat} {M : DM} {w a b : World} (h : Turns base M w a) (g : a.grownBy b (some p)) (hp : w.heap.size ≤ p) : Turns base M w b :=
  ⟨g.os.trans h.os, g.tape.trans h.tape, g.output.trans h.output, Nat.le_trans h.size g.size, fun k hk e1 e2 e3 e4 => (g.block k (Nat.lt_of_lt_of_le hk h.size) (fun e => by injection e with e; omega)).trans (h.block k hk e1 e2 e3 e4)⟩
theorem CI.next [Spare] {A : Option Addr} {L c p : Nat} {fa : Nat → Int} {base : Nat} {M : DM} {S : DS} {w wr W w2 w3 : World} {k : Nat} (C : CI A L c fa base M S w wr k) (hp : p = w.heap.size + 1) (h0 : Dsk w base M S) (hl : Below wr.heap.size wr W) (g2 : W.grownBy w2 (some p)) (k2 : KeepB base W w2)
    (n2 : w2.heap[p]? = some (.cells #[.int .i64 (nextN L (crashTo S fa L k).2)] 3 (0, 0))) (t3 : Turns base M w2 w3) (k3 : KeepB base w2 w3) (d3 : Dsk w3 base M { S with fast := (crashTo S fa L (k + 1)).1 }) (hn : (crashTo S fa L (k + 1)).2 = nextN L (crashTo S fa L k).2) : CI A L c fa base M S w w3 (k + 1) := by
  subst hp
  have a1 := h0.away (w.heap.size + 1) (.inr (by omega))
  have a2 := h0.away w.heap.size (.inr (by omega))
  have b1 := (Array.getElem?_eq_some_iff.1 C.nx).1
  have b2 := hl.size
  have b3 := g2.size
  refine ⟨d3, ((C.t.trans (Turns.of_below hl)).fates g2 (by omega)).trans t3, ((C.kb.trans (keepB_below hl)).trans k2).trans k3, ?_, ?_, ?_⟩
  · rw [hn]
    have := C.le
    unfold nextN
    split <;> omega
  · rw [hn]
    exact (t3.block _ (Array.getElem?_eq_some_iff.1 n2).1 a1.1 a1.2.1 a1.2.2.1 a1.2.2.2).trans n2
  · refine (World.cell?_of_block (w := w2) (a := ⟨w.heap.size, 0, none⟩) (t3.block _ (by show w.heap.size < _; omega) a2.1 a2.2.1 a2.2.2.1 a2.2.2.2)).trans ?_
    refine (World.cell?_of_block (w := W) (a := ⟨w.heap.size, 0, none⟩) (g2.block _ (by show w.heap.size < _; omega) (fun e => by injection e with e; simp at e))).trans ?_
    exact (hl.cell (p := ⟨w.heap.size, 0, none⟩) (by show w.heap.size < _; omega)).trans C.bx

set_option maxHeartbeats 4000000 in
theorem crash_any [Spare] (A : Option Addr) (L c : Nat) (fa : Nat → Int) (w : World) (base : Nat) (M : DM) (S : DS) (h : Dsk w base M S) (hbase : base ≤ w.heap.size) (hI : Ints w A L fa) (hA : ApartI A L M) :
    Calls Try.prog 33 #[.pointer (some ⟨M.p, 0, none⟩), .slice A L c] w fun e w' => e = .returned (.tuple #[]) ∧ Dsk w' base { M with vl := .slice none 0 0 } (crashS S fa L) ∧ Turns base M w w' ∧ KeepB base w w' := by
  go_enter Try.func33, Try.ntmps33
  go_wp2_with fail
  refine (chooser_any A L c w).mono ?_
  rintro e w1 ⟨rfl, hw1⟩
  have lW : Below w.heap.size w w1 := by rw [hw1]; exact ((Below.refl _ _).alloc (Nat.le_refl _) _).alloc (by simp) _
  have sW : w1.heap.size = w.heap.size + 2 := by rw [hw1]; simp
  have x1 : w1.cell? ⟨w.heap.size, 0, none⟩ = some (.slice A L c) := by rw [hw1]; simp
  have D := h.below lW
  have hc3 := D.c3
  obtain ⟨n, c', A', hv⟩ : ∃ n c A, M.vl = .slice A n c ∧ n = S.loose.length := by
    obtain ⟨vs, l1, l2, l3⟩ := D.lo
    rcases l2.2 with ⟨h2, h3⟩ | ⟨g, cap, cur, a1, a2, a3, a4⟩
    · exact ⟨0, 0, none, h2, by omega⟩
    · exact ⟨_, _, _, a1, rfl⟩
  obtain ⟨hv1, hv2⟩ := hv
  subst hv2
  rw [hv1] at hc3
  have t1 : w1.heap[w.heap.size + 1]? = some (.cells #[.int .i64 0] 3 (0, 0)) := by
    rw [hw1]
    have := heap_alloc_new (w.alloc (.cells #[.slice A L c] 67)) (.cells #[.int .i64 0] 3)
    rw [World.size_alloc] at this
    exact this
  clear hw1
  have LW := Lib.hid lW
  have D0 := Lib.hid D
  clear D lW
  have hL := h.hL
  have tw : Turns base M w w1 := Turns.of_below LW.out
  have C0 : CI A L c fa base M S w w1 0 := ⟨D0.out, tw, keepB_below LW.out, Nat.zero_le _, t1, x1⟩
  have HC := Lib.hid C0
  have HI := Lib.hid hI
  have h0 := Lib.hid h
  clear C0 tw t1 x1 hI h
  go_wp2
  go_loopw [18] (fun i wr => ∃ k : Nat, k ≤ S.loose.length ∧ i = .int .i64 k ∧ CI A L c fa base M S w wr k) (fun i _ => S.loose.length - (intOf i).toNat)
  case atStart => exact ⟨0, Nat.zero_le _, rfl, HC.out⟩
  case round =>
    obtain ⟨k, hk, rfl, hC⟩ := hrel
    by_cases hlt : k < S.loose.length
    · obtain ⟨g, c2, x, v, e1, e2, e3, e4, e5, e6, e7, e8, e0⟩ := hC.d.looseAt k hlt
      rw [hv1] at e1
      injection e1 with e1 q1 q2
      subst e1
      clear q1 q2
      obtain ⟨gb, cb, rfl, hcb⟩ := e8.isOwn
      have y3 := hC.d.c3
      rw [hv1] at y3
      have y0 := hC.d.c0
      have ltp := (Array.getElem?_eq_some_iff.1 hC.d.hp).1
      have ltp' : M.p < w.heap.size := (Array.getElem?_eq_some_iff.1 h0.out.hp).1
      have lsz := hC.t.size
      have ltb := (Array.getElem?_eq_some_iff.1 hC.nx).1
      have hC0 := Lib.hid hC
      have hS := h0.out.hS
      have E8 := Lib.hid e8
      clear hC e8
      by_cases hlast : k + 1 = S.loose.length
      · have qk : ((k : Int) == (S.loose.length : Int) - 1) = true := by rw [beq_iff_eq]; omega
        obtain ⟨W, hW⟩ : ∃ W, W = wr.alloc (.cells #[.int .i64 (x.1 : Int), .slice (some ⟨gb, 0, none⟩) S.size cb] 111) := ⟨_, rfl⟩
        have lW' : Below wr.heap.size wr W := by rw [hW]; exact (Below.refl _ _).alloc (Nat.le_refl _) _
        have sW' : W.heap.size = wr.heap.size + 1 := by rw [hW]; simp
        have z0 : W.cell? ⟨wr.heap.size, 0, none⟩ = some (.int .i64 (x.1 : Int)) := by rw [hW]; simp
        have z1 : W.cell? ⟨wr.heap.size, 1, none⟩ = some (.slice (some ⟨gb, 0, none⟩) S.size cb) := by rw [hW]; simp
        have zp : W.cell? ⟨M.p, 0, none⟩ = some (.int .i64 S.size) := (lW'.cell (p := ⟨M.p, 0, none⟩) (by simp; omega)).trans y0
        have znx : W.heap[w.heap.size + 1]? = some (.cells #[.int .i64 (crashTo S fa L k).2] 3 (0, 0)) := (lW'.block _ ltb).trans hC0.out.nx
        have zbx : W.cell? ⟨w.heap.size, 0, none⟩ = some (.slice A L c) := (lW'.cell (p := ⟨w.heap.size, 0, none⟩) (by simp; omega)).trans hC0.out.bx
        have zI : Ints W A L fa := (HI.out.turns hA hC0.out.t).keep fun b o e hn => lW'.block b (by have := HI.out.blk b o e hn; omega)
        have HW' := Lib.hid hW
        have LW' := Lib.hid lW'
        have ZI := Lib.hid zI
        have ZNX := Lib.hid znx
        have ZBX := Lib.hid zbx
        clear lW' zI znx zbx
        have hwr : IntKind.i64.wrap ((S.size : Int) + 1) = ((S.size + 1 : Nat) : Int) := by
          rw [show IntKind.i64.wrap ((S.size : Int) + 1) = (S.size : Int) + 1 from IntWalk.i64_in _ (by omega)]
          omega
        have hcs := Lib.hid (show (S.size : Int) + 1 = ((S.size + 1 : Nat) : Int) by omega)
        have aw := Lib.hid (h0.out.away (w.heap.size + 1) (.inr (by omega)))
        have hs1 : S.size + 1 ≤ 1000000 := by omega
        have hs0 : 1 ≤ S.size + 1 := by omega
        have n0 : wr.heap.size ≠ w.heap.size + 1 := by omega
        have nM : M.p ≠ w.heap.size + 1 := by omega
        have bM : M.p < W.heap.size := by omega
        have bl : wr.heap.size < W.heap.size := by omega
        have KS := Lib.hid (show ∀ w2, W.drew.grownBy w2 (some (w.heap.size + 1)) → w2.cell? ⟨M.p, 0, none⟩ = some (.int .i64 S.size) ∧ w2.cell? ⟨wr.heap.size, 0, none⟩ = some (.int .i64 (x.1 : Int)) ∧ w2.cell? ⟨wr.heap.size, 1, none⟩ = some (.slice (some ⟨gb, 0, none⟩) S.size cb) from fun w2 g2 =>
          ⟨(World.cell?_of_block (w := W.drew) (a := ⟨M.p, 0, none⟩) (g2.block _ bM (by simpa using nM))).trans zp, (World.cell?_of_block (w := W.drew) (a := ⟨wr.heap.size, 0, none⟩) (g2.block _ bl (by simpa using n0))).trans z0, (World.cell?_of_block (w := W.drew) (a := ⟨wr.heap.size, 1, none⟩) (g2.block _ bl (by simpa using n0))).trans z1⟩)
        have lWd : Below wr.heap.size wr W.drew := LW'.out.drew
        have DK := Lib.hid (show ∀ w2, W.drew.grownBy w2 (some (w.heap.size + 1)) → Dsk w2 base M { S with fast := (crashTo S fa L k).1 } ∧ KeepB base W.drew w2 from fun w2 g2 => (hC0.out.d.below lWd).grown ZNX.out aw.out g2)
        have BK := Lib.hid (show ∀ w2, W.drew.grownBy w2 (some (w.heap.size + 1)) → Bytes w2 (some ⟨gb, 0, none⟩) S.size x.2 from fun w2 g2 => ((E8.out.keep (keepB_below lWd)).keep (DK.out w2 g2).2).bytes)
        have GK := Lib.hid (show ∀ w2, W.drew.grownBy w2 (some (w.heap.size + 1)) → base ≤ w2.heap.size ∧ wr.heap.size < w2.heap.size from fun w2 g2 => ⟨by have := g2.size; simp at this; omega, by have := g2.size; simp at this; omega⟩)
        have CL := Lib.hid (Nat.le_of_lt_succ (choiceN_lt fa L (crashTo S fa L k).2 (S.size + 1) hs0))
        have awl := Lib.hid (h0.out.away wr.heap.size (.inr lsz))
        have E7 := Lib.hid e7
        clear lWd
        go_wp2
        rw [← HW'.out]
        clear HW' hW y3 e5 e6 e0
        clear HC D0 hA hv1 hc3 y0 e2 e3 e7
        go_region_held3 (fun w' => w'.cell? ⟨M.p, 0, none⟩ = some (.int .i64 S.size) ∧ w'.cell? ⟨wr.heap.size, 0, none⟩ = some (.int .i64 (x.1 : Int)) ∧ w'.cell? ⟨wr.heap.size, 1, none⟩ = some (.slice (some ⟨gb, 0, none⟩) S.size cb))
          (first | exact ⟨zp, z0, z1⟩ | exact KS.out _ g2 | exact ⟨d3.c0, (World.cell?_of_block (w := w2) (a := ⟨wr.heap.size, 0, none⟩) (t3.block _ (GK.out _ g2).2 awl.out.1 awl.out.2.1 awl.out.2.2.1 awl.out.2.2.2)).trans (KS.out _ g2).2.1, (World.cell?_of_block (w := w2) (a := ⟨wr.heap.size, 1, none⟩) (t3.block _ (GK.out _ g2).2 awl.out.1 awl.out.2.1 awl.out.2.2.1 awl.out.2.2.2)).trans (KS.out _ g2).2.2⟩ | go_keep)
          (first | (go_at_call 67; rw [hcs.out]; refine (choose_any A L c (crashTo S fa L k).2 (S.size + 1) (w.heap.size + 1) w.heap.size fa W.drew ZI.out hC0.out.le hs0 hs1 ZNX.out ZBX.out).mono ?_; rintro e w2 ⟨rfl, n2, g2⟩) | (go_at_call 55; refine (settle_any x.1 (choiceN fa L (crashTo S fa L k).2 (S.size + 1)) gb 0 cb x.2 w2 base M { S with fast := (crashTo S fa L k).1 } (DK.out w2 g2).1 (GK.out w2 g2).1 E7.out CL.out (BK.out w2 g2) hcb).mono ?_; rintro e w3 ⟨rfl, d3, t3, k3⟩))
        have hcr : crashTo S fa L (k + 1) = (upd (crashTo S fa L k).1 x.1 (copyF ((crashTo S fa L k).1 x.1) 0 (choiceN fa L (crashTo S fa L k).2 (S.size + 1)) x.2), nextN L (crashTo S fa L k).2) := by
          simp only [crashTo, e4, if_pos hlast]
        have CN := Lib.hid (CI.next hC0.out rfl h0.out LW'.out.drew g2 (DK.out w2 g2).2 n2 t3 k3 (by rw [hcr]; exact d3) (by rw [hcr]))
        clear hcr d3 t3 k3 n2 g2
        go_wp2
        go_roundw
        case rel => exact ⟨k + 1, by omega, by go_num, CN.out⟩
        case measure => simp [intOf]; omega
      · have qk : ((k : Int) == (S.loose.length : Int) - 1) = false := by rw [beq_eq_false_iff_ne]; omega
        obtain ⟨W, hW⟩ : ∃ W, W = wr.alloc (.cells #[.int .i64 (x.1 : Int), .slice (some ⟨gb, 0, none⟩) S.size cb] 111) := ⟨_, rfl⟩
        have lW' : Below wr.heap.size wr W := by rw [hW]; exact (Below.refl _ _).alloc (Nat.le_refl _) _
        have sW' : W.heap.size = wr.heap.size + 1 := by rw [hW]; simp
        have z0 : W.cell? ⟨wr.heap.size, 0, none⟩ = some (.int .i64 (x.1 : Int)) := by rw [hW]; simp
        have z1 : W.cell? ⟨wr.heap.size, 1, none⟩ = some (.slice (some ⟨gb, 0, none⟩) S.size cb) := by rw [hW]; simp
        have zp : W.cell? ⟨M.p, 0, none⟩ = some (.int .i64 S.size) := (lW'.cell (p := ⟨M.p, 0, none⟩) (by simp; omega)).trans y0
        have znx : W.heap[w.heap.size + 1]? = some (.cells #[.int .i64 (crashTo S fa L k).2] 3 (0, 0)) := (lW'.block _ ltb).trans hC0.out.nx
        have zbx : W.cell? ⟨w.heap.size, 0, none⟩ = some (.slice A L c) := (lW'.cell (p := ⟨w.heap.size, 0, none⟩) (by simp; omega)).trans hC0.out.bx
        have zI : Ints W A L fa := (HI.out.turns hA hC0.out.t).keep fun b o e hn => lW'.block b (by have := HI.out.blk b o e hn; omega)
        have aw := Lib.hid (h0.out.away (w.heap.size + 1) (.inr (by omega)))
        have n0 : wr.heap.size ≠ w.heap.size + 1 := by omega
        have nM : M.p ≠ w.heap.size + 1 := by omega
        have bM : M.p < W.heap.size := by omega
        have bl : wr.heap.size < W.heap.size := by omega
        have HW' := Lib.hid hW
        have LW' := Lib.hid lW'
        have ZI := Lib.hid zI
        have ZNX := Lib.hid znx
        have ZBX := Lib.hid zbx
        have awl := Lib.hid (h0.out.away wr.heap.size (.inr lsz))
        have E7 := Lib.hid e7
        have hL0 := Lib.hid hlast
        clear lW' zI znx zbx hlast
        go_wp2_with fail
        rw [← HW'.out]
        refine (choose_any A L c (crashTo S fa L k).2 2 (w.heap.size + 1) w.heap.size fa W ZI.out hC0.out.le (by omega) (by omega) ZNX.out ZBX.out).mono ?_
        rintro e w2 ⟨rfl, n2, g2⟩
        have s0 : w2.cell? ⟨M.p, 0, none⟩ = some (.int .i64 S.size) := (World.cell?_of_block (w := W) (a := ⟨M.p, 0, none⟩) (g2.block _ bM (by simpa using nM))).trans zp
        have s1 : w2.cell? ⟨wr.heap.size, 0, none⟩ = some (.int .i64 (x.1 : Int)) := (World.cell?_of_block (w := W) (a := ⟨wr.heap.size, 0, none⟩) (g2.block _ bl (by simpa using n0))).trans z0
        have s2 : w2.cell? ⟨wr.heap.size, 1, none⟩ = some (.slice (some ⟨gb, 0, none⟩) S.size cb) := (World.cell?_of_block (w := W) (a := ⟨wr.heap.size, 1, none⟩) (g2.block _ bl (by simpa using n0))).trans z1
        have dk := (hC0.out.d.below LW'.out).grown ZNX.out aw.out g2
        have bk := ((E8.out.keep (keepB_below LW'.out)).keep dk.2).bytes
        have gs := g2.size
        have gz1 : base ≤ w2.heap.size := by omega
        have gz2 : wr.heap.size < w2.heap.size := by omega
        have DK := Lib.hid dk
        have BK := Lib.hid bk
        have N2 := Lib.hid n2
        have G2 := Lib.hid g2
        clear dk bk n2 g2 gs HW' hW y3 e5 e6 e0 HC D0 hv1 hc3 y0 e2 e3 e7 z0 z1 zp bM bl
        by_cases h1 : choiceN fa L (crashTo S fa L k).2 2 = 1
        · have qc : (((choiceN fa L (crashTo S fa L k).2 2 : Nat) : Int) == 1) = true := by rw [beq_iff_eq]; omega
          have H1 := Lib.hid h1
          clear h1
          go_wp2
          go_region_held3 (fun w' => w'.cell? ⟨M.p, 0, none⟩ = some (.int .i64 S.size) ∧ w'.cell? ⟨wr.heap.size, 0, none⟩ = some (.int .i64 (x.1 : Int)) ∧ w'.cell? ⟨wr.heap.size, 1, none⟩ = some (.slice (some ⟨gb, 0, none⟩) S.size cb))
            (first | exact ⟨s0, s1, s2⟩ | exact ⟨d3.c0, (World.cell?_of_block (w := w2.drew) (a := ⟨wr.heap.size, 0, none⟩) (t3.block _ gz2 awl.out.1 awl.out.2.1 awl.out.2.2.1 awl.out.2.2.2)).trans s1, (World.cell?_of_block (w := w2.drew) (a := ⟨wr.heap.size, 1, none⟩) (t3.block _ gz2 awl.out.1 awl.out.2.1 awl.out.2.2.1 awl.out.2.2.2)).trans s2⟩ | go_keep)
            (first | (go_at_call 55; refine (settle_any x.1 S.size gb 0 cb x.2 w2.drew base M { S with fast := (crashTo S fa L k).1 } (DK.out.1.below ((Below.refl _ _).drew)) gz1 E7.out (Nat.le_refl _) BK.out hcb).mono ?_; rintro e w3 ⟨rfl, d3, t3, k3⟩))
          have hcr : crashTo S fa L (k + 1) = (upd (crashTo S fa L k).1 x.1 (copyF ((crashTo S fa L k).1 x.1) 0 S.size x.2), nextN L (crashTo S fa L k).2) := by
            simp only [crashTo, e4, if_neg hL0.out, if_pos H1.out]
          have CN := Lib.hid (CI.next hC0.out rfl h0.out LW'.out G2.out DK.out.2 N2.out ((Turns.of_below ((Below.refl w2.heap.size w2).drew)).trans t3) ((keepB_below ((Below.refl w2.heap.size w2).drew)).trans k3) (by rw [hcr]; exact d3) (by rw [hcr]))
          clear hcr d3 t3 k3
          go_wp2
          go_roundw
          case rel => exact ⟨k + 1, by omega, by go_num, CN.out⟩
          case measure => simp [intOf]; omega
        · have qc : (((choiceN fa L (crashTo S fa L k).2 2 : Nat) : Int) == 1) = false := by rw [beq_eq_false_iff_ne]; omega
          have hcr : crashTo S fa L (k + 1) = ((crashTo S fa L k).1, nextN L (crashTo S fa L k).2) := by
            simp only [crashTo, e4, if_neg hL0.out, if_neg h1]
          have CN := Lib.hid (CI.next hC0.out rfl h0.out LW'.out G2.out DK.out.2 N2.out (Turns.refl _ _ _) (KeepB.refl _ _) (by rw [hcr]; exact DK.out.1) (by rw [hcr]))
          clear hcr h1
          go_wp2
          go_roundw
          case rel => exact ⟨k + 1, by omega, by go_num, CN.out⟩
          case measure => simp [intOf]; omega
    · obtain rfl : k = S.loose.length := by omega
      obtain ⟨F, hF⟩ : ∃ F, F = (crashTo S fa L S.loose.length).1 := ⟨_, rfl⟩
      have z0 := hC.d
      rw [← hF] at z0
      have Z0 := Lib.hid z0
      have ZT := Lib.hid hC.t
      have ZK := Lib.hid hC.kb
      have HF := Lib.hid hF
      have y3 := z0.c3
      rw [hv1] at y3
      clear z0 hC hF HC D0
      go_wp2
      go_loopw [57] (fun i wr => ∃ k : Nat, k ≤ S.loose.length ∧ i = .int .i64 k ∧ Dsk wr base M { S with fast := F, now := nowTo F S.now (S.loose.take k) } ∧ Turns base M w wr ∧ KeepB base w wr) (fun i _ => S.loose.length - (intOf i).toNat)
      case atStart => exact ⟨0, Nat.zero_le _, rfl, Z0.out, ZT.out, ZK.out⟩
      case round =>
        obtain ⟨k, hk, rfl, hD, hT, hK⟩ := hrel
        by_cases hlt : k < S.loose.length
        · obtain ⟨g, c', x, v, e1, e2, e3, e4, e5, e6, e7, e8, e0⟩ := hD.looseAt k hlt
          rw [hv1] at e1
          injection e1 with e1 q1 q2
          subst e1
          clear q1 q2
          obtain ⟨a1, a2, a3, rfl⟩ := e8.1.isSlice
          have y1 := hD.c1
          have y2 := hD.c2
          have ltp := (Array.getElem?_eq_some_iff.1 hD.hp).1
          obtain ⟨V, v1, v2⟩ := id hD.vf
          obtain ⟨U, u1, _⟩ := id hD.vn
          have ltf := v1.lt
          have ltn := u1.lt
          have s8 := v2 x.1 e7
          obtain ⟨b1, b2, b3, hb⟩ := s8.isSlice
          have z1 := v1.cell e7
          have z3 := u1.cell (i := x.1) (Nat.lt_of_lt_of_le e7 hD.hC.1)
          have hcn := hD.hC.2
          have z4 := u1.frozen x.1
          rw [hb] at z1 s8
          have e7' : x.1 < S.N := e7
          have hN := h0.out.hN
          obtain ⟨D3, k3⟩ := hD.setNow (k := x.1) s8
          have t3 : Turns base M wr (wr.setCell ⟨M.bn, x.1, none⟩ (.slice b1 b2 b3)) := ⟨rfl, rfl, rfl, by simp [World.setCell], fun j _ _ _ hj _ => Below.heap_setCell _ ⟨M.bn, x.1, none⟩ _ j hj⟩
          have D4 : Dsk (wr.setCell ⟨M.bn, x.1, none⟩ (.slice b1 b2 b3)) base M { S with fast := F, now := nowTo F S.now (S.loose.take (k + 1)) } := by
            have q : nowTo F S.now (S.loose.take (k + 1)) = upd (nowTo F S.now (S.loose.take k)) x.1 (F x.1) := by
              have e4' : S.loose[k]? = some x := e4
              rw [List.take_add_one, e4']
              unfold nowTo
              rw [List.foldl_append]
              rfl
            rw [q]
            exact D3
          have lW : Below _ _ (((wr.setCell ⟨M.bn, x.1, none⟩ (.slice b1 b2 b3)).alloc (.cells #[.int .i64 (x.1 : Int), .slice a1 a2 a3] 111)).drew) := ((Below.refl (wr.setCell ⟨M.bn, x.1, none⟩ (.slice b1 b2 b3)).heap.size (wr.setCell ⟨M.bn, x.1, none⟩ (.slice b1 b2 b3))).alloc (Nat.le_refl _) _).drew
          have DD := Lib.hid (D4.below lW)
          have TT := Lib.hid (hT.trans (t3.trans (Turns.of_below lW)))
          have KK := Lib.hid (hK.trans (k3.trans (keepB_below (base := base) lW)))
          clear D3 D4 t3 k3 hD hT hK lW v1 v2 u1 e8 s8
          go_wp2
          go_region
          go_wp2
          go_roundw
          case rel => exact ⟨k + 1, by omega, by go_num, DD.out, TT.out, KK.out⟩
          case measure => simp [intOf]; omega
        · obtain rfl : k = S.loose.length := by omega
          rw [List.take_length] at hD
          have q3 := hD.c3
          have q4 := hD.c4
          have q5 := hD.c5
          have r3 := hD.frozen 3
          have r4 := hD.frozen 4
          have r5 := hD.frozen 5
          have D1 := hD.noLoose
          have D2 := D1.store 4 (.int .i64 0) { S with fast := F, now := nowTo F S.now S.loose, loose := [], armed := 0 } rfl rfl rfl rfl rfl rfl (by simp)
          have D3 := D2.store 5 (.bool false) { S with fast := F, now := nowTo F S.now S.loose, loose := [], armed := 0, down := false } rfl rfl rfl rfl rfl rfl (by simp)
          have t2 : Turns base M w _ := hT.trans ((Turns.store _ 3 (.slice none 0 0)).trans ((Turns.store _ 4 (.int .i64 0)).trans (Turns.store _ 5 (.bool false))))
          have k2 := hK.trans ((keepB_store (i := 3) (v := .slice none 0 0) hD.hp (by decide)).trans ((keepB_store (i := 4) (v := .int .i64 0) D1.hp (by decide)).trans (keepB_store (i := 5) (v := .bool false) D2.hp (by decide))))
          have DD := Lib.hid D3
          have TT := Lib.hid t2
          have KK := Lib.hid k2
          clear D1 D2 D3 t2 k2 hD hT hK
          go_wp2
          go_end0
          refine ⟨rfl, ?_, TT.out, KK.out⟩
          have hc : crashS S fa L = { S with fast := F, now := nowTo F S.now S.loose, loose := [], armed := 0, down := false } := by unfold crashS; rw [← HF.out]
          rw [hc]
          exact DD.out
end Go.Proofs.Ytmikemijdglgaaa
/- What a row of calls leaves of a disk and of what was there ahead of it. -/
namespace Go.Proofs.Ytmikemijdglgaaa
open Go.RowKit

/-- A disk whose blocks all lie from base on; what lay below base is as it was in w0. -/
structure On [Spare] (w0 : World) (base : Nat) (M : DM) (S : DS) (w : World) : Prop where
  d : Dsk w base M S
  b : Below base w0 w
  z : base ≤ w0.heap.size

section
variable {w0 w w' : World} {base : Nat} {M : DM} {S S' : DS}
theorem On.le [Spare] (h : On w0 base M S w) : base ≤ w.heap.size := Nat.le_trans h.z h.b.size
theorem Turns.on [Spare] (h : On w0 base M S w) (t : Turns base M w w') : Below base w0 w' := by
  refine ⟨t.os.trans h.b.os, t.tape.trans h.b.tape, t.output.trans h.b.output, Nat.le_trans h.b.size t.size, fun k hk => ?_⟩
  obtain ⟨a1, a2, a3, a4⟩ := h.d.away k (.inl hk)
  exact (t.block k (Nat.lt_of_lt_of_le hk h.le) a1 a2 a3 a4).trans (h.b.block k hk)
theorem On.left [Spare] (h : On w0 base M S w) (l : Left S' base M w w') : ∃ v', On w0 base { M with vl := v' } S' w' := by
  obtain ⟨v', d, t, _, _⟩ := l
  exact ⟨v', d, t.on h, h.z⟩
theorem On.to [Spare] {v' : Value} (h : On w0 base M S w) (d : Dsk w' base { M with vl := v' } S') (t : Turns base M w w') : On w0 base { M with vl := v' } S' w' := ⟨d, t.on h, h.z⟩
theorem On.below [Spare] (h : On w0 base M S w) (l : Below w.heap.size w w') : On w0 base M S w' := ⟨h.d.below l, h.b.trans (l.mono h.le), h.z⟩
theorem On.drew [Spare] (h : On w0 base M S w) : On w0 base M S w.drew := h.below (Below.refl _ _).drew
end

theorem Ints.below {w w' : World} {A : Option Addr} {n B : Nat} {fa : Nat → Int} (h : Ints w A n fa) (hb : Below B w w') (hB : w.heap.size ≤ B) : Ints w' A n fa :=
  h.keep fun b o e hn => hb.block b (by have := h.blk b o e hn; omega)
/-- A block of ints is none of the disk's own. -/
theorem Dsk.apartI [Spare] {w : World} {base b o n : Nat} {M : DM} {S : DS} {cs : Array Value} (h : Dsk w base M S) (hb : w.heap[b]? = some (.cells cs 3 (0, 0))) : ApartI (some ⟨b, o, none⟩) n M := by
  rintro _ b' o' e
  injection e with e
  injection e with e1 e2
  subst e1
  obtain ⟨V, ⟨c, cv, _⟩, _⟩ := h.vf
  obtain ⟨U, ⟨c', cu, _⟩, _⟩ := h.vn
  obtain ⟨vs, _, l2, _⟩ := h.lo
  refine ⟨type_ne hb h.hp (by decide), type_ne hb cv (by decide), type_ne hb cu (by decide), fun e => ?_⟩
  rcases l2.2 with ⟨hv, _⟩ | ⟨g, cap, cur, hv, _, hh, _⟩
  · rw [hv] at e; cases e
  · rw [hv] at e
    simp only [Value.ownBlock, Option.some.injEq] at e
    exact type_ne hh hb (by decide) e
/-- A block of bytes that is none of the disk's own lasts. (None of the disk's four blocks is one of bytes.) -/
theorem Dsk.apartB [Spare] {w : World} {base g : Nat} {M : DM} {S : DS} {cs : Array Value} (h : Dsk w base M S) (hb : w.heap[g]? = some (.cells cs 5 (0, 0))) : g ≠ M.p ∧ g ≠ M.bf ∧ g ≠ M.bn ∧ M.vl.ownBlock ≠ some g := by
  obtain ⟨V, ⟨c, cv, _⟩, _⟩ := h.vf
  obtain ⟨U, ⟨c', cu, _⟩, _⟩ := h.vn
  obtain ⟨vs, _, l2, _⟩ := h.lo
  refine ⟨type_ne hb h.hp (by decide), type_ne hb cv (by decide), type_ne hb cu (by decide), fun e => ?_⟩
  rcases l2.2 with ⟨hv, _⟩ | ⟨g, cap, cur, hv, _, hh, _⟩
  · rw [hv] at e; cases e
  · rw [hv] at e
    simp only [Value.ownBlock, Option.some.injEq] at e
    exact type_ne hh hb (by decide) e
theorem BRow.turns [Spare] {w w' : World} {base g n : Nat} {M : DM} {S : DS} {F : Nat → Nat} (h : BRow w g n F) (d : Dsk w base M S) (t : Turns base M w w') : BRow w' g n F := by
  obtain ⟨c, hc, _⟩ := id h.1
  obtain ⟨a1, a2, a3, a4⟩ := d.apartB hc
  exact h.of_block (t.block g h.lt a1 a2 a3 a4)
theorem BRow.left [Spare] {w w' : World} {base g n : Nat} {M : DM} {S S' : DS} {F : Nat → Nat} (h : BRow w g n F) (d : Dsk w base M S) (l : Left S' base M w w') : BRow w' g n F := by
  obtain ⟨_, _, t, _, _⟩ := l
  exact h.turns d t
theorem Ints.apart [Spare] {w0 w : World} {base L : Nat} {A : Option Addr} {fa : Nat → Int} {M : DM} {S : DS} (h : Ints w0 A L fa) (hz : w0.heap.size ≤ base) (d : Dsk w base M S) : ApartI A L M := fun hn b o e => d.away b (.inl (by have := h.blk b o e hn; omega))
theorem one_int (w : World) (z : Int) (h0 : -9223372036854775808 ≤ z) (h1 : z ≤ 9223372036854775807) : Ints (w.alloc (.cells #[.int .i64 z] 3)) (some ⟨w.heap.size, 0, none⟩) 1 (fun _ => z) := by
  refine ⟨by omega, fun _ _ => ⟨h0, h1⟩, fun _ => ⟨_, _, rfl, fun i hi => ?_⟩⟩
  obtain rfl : i = 0 := by omega
  simp
theorem crash_one [Spare] (z : Int) (w0 w : World) (base : Nat) (M : DM) (S : DS) (h : On w0 base M S w) (h0 : -9223372036854775808 ≤ z) (h1 : z ≤ 9223372036854775807) (c : Nat) :
    Calls Try.prog 33 #[.pointer (some ⟨M.p, 0, none⟩), .slice (some ⟨w.heap.size, 0, none⟩) 1 c] (w.alloc (.cells #[.int .i64 z] 3)) fun e w' => e = .returned (.tuple #[]) ∧ On w0 base { M with vl := .slice none 0 0 } (crashS S (fun _ => z) 1) w' ∧ ∀ g n F, BRow w g n F → BRow w' g n F := by
  have l1 : Below w.heap.size w (w.alloc (.cells #[.int .i64 z] 3)) := (Below.refl _ _).alloc (Nat.le_refl _) _
  have h2 := h.below l1
  refine (crash_any (some ⟨w.heap.size, 0, none⟩) 1 c (fun _ => z) _ base M S h2.d h2.le (one_int w z h0 h1) (h2.d.apartI (cs := #[.int .i64 z]) (heap_alloc_new w _))).mono ?_
  rintro e w' ⟨rfl, d, t, _⟩
  exact ⟨rfl, h2.to d t, fun g n F r => (r.below l1 r.lt).turns h2.d t⟩
end Go.Proofs.Ytmikemijdglgaaa
