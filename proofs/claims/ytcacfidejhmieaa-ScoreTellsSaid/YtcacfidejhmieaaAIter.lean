/- score's small calls, and the bits behind the point: an iterator: contracts. -/
import Derived.Test.YtcacfidejhmieaaAPlain
import Derived.Test.YtcacfidejhmieaaShelf
import Derived.Lib.Hide
import Derived.IntWalk
import Derived.RangeFuncNested
import Derived.RangeFuncBound
import Derived.RangeFuncCalls
import Derived.RangeFuncLeaves
import Derived.RangeFuncBox
import Derived.Shelf.Abstract
import Derived.Shelf.RegionOpen
import Derived.OwnWalkIn
import Derived.TacticsInMore
import Derived.LoopNIn
import Derived.LoopIn
import Derived.Sort.CutIn
import Derived.Maps.OwnIn
import Derived.Deep.LoopGhost
import Derived.Maps.AppendAt
import Derived.Below
namespace Go.Proofs.Ytcacfidejhmieaa
open Go.RowKit
set_option linter.unusedVariables false
set_option linter.unusedSimpArgs false

open Go.Shelf
attribute [local go_sem] Oper.semAt_some
theorem ret_i {k : IntKind} {a b : Int} (h : a = b) : Ending.returned (.int k a) = .returned (.int k b) := by rw [h]
theorem ret_b {a b : Bool} (h : a = b) : Ending.returned (.bool a) = .returned (.bool b) := by rw [h]
theorem kp' {a w : World} {b o : Nat} {v : Value} {B : Nat} (hb : Below B a w) (hlt : b < B) (h : a.cell? ⟨b, o, none⟩ = some v) : w.cell? ⟨b, o, none⟩ = some v := (hb.cell (p := ⟨b, o, none⟩) hlt).trans h
def KpS (n₀ : Nat) (A B : World) : Prop := Below n₀ A B ∧ KeepsWalks A B
theorem KpS.t {n₀ : Nat} {A B C : World} (h : KpS n₀ A B) (k : KpS n₀ B C) : KpS n₀ A C := ⟨h.1.trans k.1, h.2.trans k.2⟩
theorem KpS.b {n₀ : Nat} {w : World} (hn : n₀ ≤ w.heap.size) (W : World) (l : Nat) (o o' : Obj) (hl : w.heap.size ≤ l) (h : W.heap[l]? = some o) (h1 : o.isCells = false) (h2 : o.isWalk = false) : KpS n₀ W (W.putObj l o') :=
  ⟨belowK_b hn W l o o' hl h h1 h2, walksK_b (w := w) W l o o' hl h h1 h2⟩
abbrev encN (b : Bool) : Array Value := #[.int .i64 (b.toNat : Nat)]
theorem within64_yes (n a b : Int) (w : World) (h1 : a ≤ n) (h2 : n ≤ b) : Calls Try.prog 25 #[.int .u64 n, .int .u64 a, .int .u64 b] w fun e w' => e = .returned (.bool true) ∧ w = w' := by
  go_enter Try.func25, Try.ntmps25
  go_wp2
  go_ret
  exact ⟨rfl, rfl⟩
theorem within64_above (n a b : Int) (w : World) (h1 : a ≤ n) (h2 : b < n) : Calls Try.prog 25 #[.int .u64 n, .int .u64 a, .int .u64 b] w fun e w' => e = .returned (.bool false) ∧ w = w' := by
  have hd : decide (n ≤ b) = false := decide_eq_false (by omega)
  go_enter Try.func25, Try.ntmps25
  go_wp2
  go_ret
  exact ⟨rfl, rfl⟩
theorem pointed_up (n e : Nat) (w : World) (he : 30 < e) (hee : e < 64) : Calls Try.prog 21 #[.int .u64 n, .int .i64 e] w fun r w' => r = .returned (.int .u64 ((n / 2 ^ (e - 30) : Nat) : Int)) ∧ w = w' := by
  go_enter Try.func21, Try.ntmps21
  go_wp2
  go_ret
  exact ⟨ret_i (by simp), rfl⟩
theorem pointed_down (n e : Nat) (w : World) (he : e ≤ 30) (hn : n < 2 ^ (e + 1)) : Calls Try.prog 21 #[.int .u64 n, .int .i64 e] w fun r w' => r = .returned (.int .u64 ((n * 2 ^ (30 - e) : Nat) : Int)) ∧ w = w' := by
  have hp : n * 2 ^ (30 - e) < 2147483648 := by
    have h : n * 2 ^ (30 - e) < 2 ^ (e + 1) * 2 ^ (30 - e) := Nat.mul_lt_mul_of_pos_right hn (Nat.pow_pos (by omega))
    rw [← Nat.pow_add, show e + 1 + (30 - e) = 31 by omega] at h
    exact h
  have HP := Lib.hid hp
  clear hp hn
  go_enter Try.func21, Try.ntmps21
  go_wp2
  go_ret
  refine ⟨ret_i ?_, rfl⟩
  have h := HP.out
  have e1 : ((n * 2 ^ (30 - e) : Nat) : Int) = (n : Int) * 2 ^ (30 - e) := by simp
  rw [← e1]
  exact IntWalk.u64_in _ (by omega)
theorem bitsBehind_any (x : Nat) (w : World) : Calls Try.prog 20 #[.int .u64 x] w fun e w' => e = .returned (.func (.func 24) #[] #[.pointer (some ⟨w.heap.size, 0, none⟩)]) ∧ w' = w.alloc (.cells #[.int .u64 x] 22) := by
  go_enter Try.func20, Try.ntmps20
  go_wp2
  go_ret
  exact ⟨rfl, rfl⟩
set_option maxRecDepth 100000 in
set_option maxHeartbeats 16000000 in
theorem bits1_in (n : Nat) (hn : 2 ≤ n) (l : Nat) (w0 : World) (Bs : Nat) (x : Nat) (hx : InX x) (J Jx : List Bool → World → Prop) (W : World) (hJ : AbidesFrom W.heap.size J)
    (hY : ∀ pre b W1, J pre W1 → pre.length < 8 → YieldAt Fence.wide (n - 1) Try.prog l (encN b) W1 fun e W' =>
      (e = .returned (.bool true) ∧ J (pre ++ [b]) W' ∧ KpS w0.heap.size W1 W') ∨ (e = .returned (.bool false) ∧ Jx (pre ++ [b]) W'))
    (hB0 : Below w0.heap.size w0 W) (hBs : W.cell? ⟨Bs, 0, none⟩ = some (.int .u64 x)) (h0 : J [] W) :
    CallsIn Fence.wide n Try.prog 24 #[.func (.yield l) #[] #[], .pointer (some ⟨Bs, 0, none⟩)] W fun e W' => (∃ v, e = .returned v) ∧
      ((∃ ys, ys = bitF 8 x ∧ J ys W') ∨ (∃ pre, (∃ sf, bitF 8 x = pre ++ sf) ∧ Jx pre W')) := by
  refine callsIn_of_wp Try.func24 rfl trivial ?_ rfl
  simp only [Try.ntmps24, List.size_toArray, List.length_cons, List.length_nil, Nat.reduceAdd, Nat.reduceSub, Array.replicate_succ, Array.replicate_zero, List.push_toArray, List.append_toArray, List.nil_append, List.cons_append]
  have hn1 : 1 ≤ n := by omega
  have HY := Lib.hid hY
  have HJ := Lib.hid hJ
  have H0 := Lib.hid h0
  have HB := Lib.hid hB0
  have HX := Lib.hid hx
  clear hY hJ h0 hB0 hx
  gi_wp2
  gi_loopw [3, 6] (fun sv iv wr => (∃ y k : Nat, k ≤ 8 ∧ sv = .int .u64 y ∧ iv = .int .i64 k ∧ InX y ∧ ∃ pre : List Bool, pre ++ bitF (8 - k) y = bitF 8 x ∧ pre.length = k ∧ J pre wr) ∧ Below w0.heap.size w0 wr)
    (fun _ iv _ => 8 - (intOf iv).toNat)
  case atStart => exact ⟨⟨x, 0, by omega, rfl, rfl, HX.out, [], rfl, rfl, H0.out⟩, HB.out⟩
  case round =>
    obtain ⟨⟨y, k, hk, rfl, rfl, hy, pre, hpre, hpl, hJs⟩, hB1⟩ := hrel
    have HPre := Lib.hid hpre
    have HB1 := Lib.hid hB1
    have HJs := Lib.hid hJs
    have HPl := Lib.hid hpl
    clear hpre hB1 hJs hpl
    by_cases hlt : k < 8
    · have hst := stp_in hy
      have q1 := sq_lo hy
      have q2 := sq_hi hy
      have q3 := sq_le hy
      have w1 : IntKind.u64.wrap ((y : Int) * (y : Int)) = ((y * y : Nat) : Int) := by
        rw [← Int.natCast_mul]; exact IntWalk.u64_in _ (by omega)
      have HP2 := Lib.hid (show (pre ++ [(stp y).2]) ++ bitF (8 - (k + 1)) (stp y).1 = bitF 8 x by rw [← HPre.out, show 8 - k = (8 - (k + 1)) + 1 by omega, bitF, List.append_assoc]; rfl)
      have HST := Lib.hid hst
      by_cases hc : y * y / 1073741824 < 2147483648
      · rw [stp_yes hc] at HP2 HST
        dsimp only at HP2 HST
        generalize y * y = yy at *
        clear hst hy
        gi_wp2_with (refine ⟨trivial, ?_⟩; gi_at_call 25; refine CallsIn.mono (callsIn_wide.2 (within64_yes _ _ _ _ (by omega) (by omega))) ?_; rintro _ _ ⟨rfl, rfl⟩)
        obtain ⟨fn, tmps, assign, body, hy, hRd⟩ := HY.out pre false wr HJs.out (by have := HPl.out; omega)
        have HR := Lib.hid hRd
        clear hRd
        have hy2 : (Instr.yield l #[.int .i64 0]).run Try.prog wr = _ := hy
        rw [hy2]
        refine ⟨fun _ => hn1, HR.out.mono ?_⟩
        rintro e W3 (⟨rfl, hJ3, hk3⟩ | ⟨rfl, hJx3⟩)
        · have HJ3 := Lib.hid hJ3
          have HB5 := Lib.hid (HB1.out.trans hk3.1)
          clear hJ3 hk3 hy hy2
          gi_wp2
          exact ⟨⟨⟨yy / 1073741824, k + 1, by omega, by simp, by go_num, HST.out, _, HP2.out, by simp [HPl.out], HJ3.out⟩, HB5.out⟩, by simp [intOf]; omega⟩
        · have HJX := Lib.hid hJx3
          clear hJx3 hy hy2
          gi_wp2
          refine bodyPost_ret (results_none rfl _ _ _) rfl ?_
          exact ⟨⟨_, rfl⟩, .inr ⟨_, ⟨_, HP2.out.symm⟩, HJX.out⟩⟩
      · rw [stp_no hc] at HP2 HST
        dsimp only at HP2 HST
        generalize y * y = yy at *
        clear hst hy
        gi_wp2_with (refine ⟨trivial, ?_⟩; gi_at_call 25; refine CallsIn.mono (callsIn_wide.2 (within64_above _ _ _ _ (by omega) (by omega))) ?_; rintro _ _ ⟨rfl, rfl⟩)
        obtain ⟨fn, tmps, assign, body, hy, hRd⟩ := HY.out pre true wr HJs.out (by have := HPl.out; omega)
        have HR := Lib.hid hRd
        clear hRd
        have hy2 : (Instr.yield l #[.int .i64 1]).run Try.prog wr = _ := hy
        rw [hy2]
        refine ⟨fun _ => hn1, HR.out.mono ?_⟩
        rintro e W3 (⟨rfl, hJ3, hk3⟩ | ⟨rfl, hJx3⟩)
        · have HJ3 := Lib.hid hJ3
          have HB5 := Lib.hid (HB1.out.trans hk3.1)
          clear hJ3 hk3 hy hy2
          gi_wp2
          exact ⟨⟨⟨yy / 1073741824 / 2, k + 1, by omega, by simp, by go_num, HST.out, _, HP2.out, by simp [HPl.out], HJ3.out⟩, HB5.out⟩, by simp [intOf]; omega⟩
        · have HJX := Lib.hid hJx3
          clear hJx3 hy hy2
          gi_wp2
          refine bodyPost_ret (results_none rfl _ _ _) rfl ?_
          exact ⟨⟨_, rfl⟩, .inr ⟨_, ⟨_, HP2.out.symm⟩, HJX.out⟩⟩
    · have h8 : k = 8 := by omega
      have HP := Lib.hid HPre.out
      rw [h8] at HP
      have HP3 := Lib.hid (show pre = bitF 8 x by rw [← HP.out]; simp [bitF])
      clear h8 HP
      gi_wp2
      go_end0
      exact ⟨⟨_, rfl⟩, .inl ⟨_, HP3.out, HJs.out⟩⟩
theorem bits_stops (n : Nat) (hn : 2 ≤ n) (w0 : World) (Bs : Nat) (x : Nat) (hx : InX x) (w : World) (hB0 : Below w0.heap.size w0 w) (hBsl : Bs < w.heap.size) (hBs : w.cell? ⟨Bs, 0, none⟩ = some (.int .u64 x)) :
    SeqStopsK Fence.wide n Try.prog 24 #[.pointer (some ⟨Bs, 0, none⟩)] encN (KpS w0.heap.size) (fun ys => ys = bitF 8 x) (fun pre => ∃ sf, bitF 8 x = pre ++ sf) 8 w := fun l J Jx W hW hJ _ hY h0 =>
  bits1_in n hn l w0 Bs x hx J Jx W hJ hY (hB0.trans (hW.mono hB0.size)) (kp' hW hBsl hBs) h0
end Go.Proofs.Ytcacfidejhmieaa
