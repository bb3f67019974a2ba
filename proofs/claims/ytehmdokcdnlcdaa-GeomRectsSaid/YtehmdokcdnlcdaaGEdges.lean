/- geom's edges: an iterator over a ring's edges: its contract. -/
import Derived.Test.YtehmdokcdnlcdaaGMay
import Derived.RangeFuncNested
import Derived.RangeFuncBound
import Derived.RangeFuncCalls
import Derived.RangeFuncLeaves
import Derived.Shelf.Abstract
import Derived.Shelf.RegionOpen
import Derived.WalkKit
import Derived.OwnWalkIn
import Derived.TacticsInMore
import Derived.LoopNIn
import Derived.LoopIn
import Derived.Sort.CutIn
namespace Go.Proofs.Ytehmdokcdnlcdaa
open Go.RowKit
set_option linter.unusedVariables false

open Go.Shelf
attribute [local go_sem] Oper.semAt_some

abbrev encE (x : Pt × Pt) : Array Value := #[.agg #[.int .i64 x.1.x, .int .i64 x.1.y], .agg #[.int .i64 x.2.x, .int .i64 x.2.y]]
def edgeAt (F : Nat → Pt) (n k : Nat) : Pt × Pt := (F k, F ((k + 1) % n))
def uptoE (F : Nat → Pt) (n k : Nat) : List (Pt × Pt) := (List.range k).map (edgeAt F n)
theorem uptoE_succ (F : Nat → Pt) (n k : Nat) : uptoE F n (k + 1) = uptoE F n k ++ [edgeAt F n k] := by simp [uptoE, List.range_succ]
theorem uptoE_length (F : Nat → Pt) (n k : Nat) : (uptoE F n k).length = k := by simp [uptoE]
/-- What a round that goes on keeps: what lay below n₀, and the iterator's own box. -/
def KpE (n₀ Bs : Nat) (A B : World) : Prop := Below n₀ A B ∧ B.heap[Bs]? = A.heap[Bs]?
theorem KpE.t {n₀ Bs : Nat} {A B C : World} (h : KpE n₀ Bs A B) (k : KpE n₀ Bs B C) : KpE n₀ Bs A C := ⟨h.1.trans k.1, k.2.trans h.2⟩
theorem KpE.b {n₀ Bs : Nat} {w : World} (hn : n₀ ≤ w.heap.size) (hb : Bs < w.heap.size) (W : World) (l : Nat) (o o' : Obj) (hl : w.heap.size ≤ l) (h : W.heap[l]? = some o) (h1 : o.isCells = false) (h2 : o.isWalk = false) : KpE n₀ Bs W (W.putObj l o') :=
  ⟨belowK_b hn W l o o' hl h h1 h2, (grownBy_putObj' W l o').block Bs (by have := (Array.getElem?_eq_some_iff.1 h).1; omega) (fun e => by cases e; omega)⟩
theorem KpE.refl (n₀ Bs : Nat) (W : World) : KpE n₀ Bs W W := ⟨Below.refl _ _, rfl⟩
theorem tmod_nat {k n m : Nat} (hm : m = (k + 1) % n) : (((k : Int) + 1).tmod (n : Int)) = (m : Int) := by
  subst hm
  rw [Int.tmod_eq_emod_of_nonneg (by omega)]
  first | (rw [Int.natCast_emod]; rfl) | simp
theorem yield_two {e : Ending} {P Q : Prop} (h : (e = .returned (.bool true) ∧ P) ∨ (e = .returned (.bool false) ∧ Q)) : ∃ b : Bool, e = .returned (.bool b) ∧ ((b = true ∧ P) ∨ (b = false ∧ Q)) := by
  rcases h with ⟨h1, h2⟩ | ⟨h1, h2⟩
  · exact ⟨true, h1, .inl ⟨rfl, h2⟩⟩
  · exact ⟨false, h1, .inr ⟨rfl, h2⟩⟩
set_option maxRecDepth 100000 in
set_option maxHeartbeats 4000000 in
theorem edges1_in (n : Nat) (hn : 1 ≤ n) (l Bs n₀ b o len cap : Nat) (F : Nat → Pt) (hlen : len ≤ 9223372036854775806) (hl0 : 0 < len) (hb : b < n₀) (J Jx : List (Pt × Pt) → World → Prop) (W : World) (hJ : AbidesFrom W.heap.size J)
    (hY : ∀ pre x W1, J pre W1 → pre.length < len → YieldAt Fence.wide (n - 1) Try.prog l (encE x) W1 fun e W' =>
      (e = .returned (.bool true) ∧ J (pre ++ [x]) W' ∧ KpE n₀ Bs W1 W') ∨ (e = .returned (.bool false) ∧ Jx (pre ++ [x]) W'))
    (hn0 : n₀ ≤ W.heap.size) (hBsl : Bs < W.heap.size) (hBs : W.cell? ⟨Bs, 0, none⟩ = some (.slice (some ⟨b, o, none⟩) len cap))
    (hc : ∀ i, i < len → W.cell? ⟨b, o + i * 2, none⟩ = some (.int .i64 (F i).x) ∧ W.cell? ⟨b, o + i * 2 + 1, none⟩ = some (.int .i64 (F i).y)) (h0 : J [] W) :
    CallsIn Fence.wide n Try.prog 54 #[.func (.yield l) #[] #[], .pointer (some ⟨Bs, 0, none⟩)] W fun e W' => (∃ v, e = .returned v) ∧
      ((∃ ys, ys = uptoE F len len ∧ J ys W') ∨ (∃ pre, (∃ k, k ≤ len ∧ pre = uptoE F len k) ∧ Jx pre W')) := by
  refine callsIn_of_wp Try.func54 rfl trivial ?_ rfl
  simp only [Try.ntmps54, List.size_toArray, List.length_cons, List.length_nil, Nat.reduceAdd, Nat.reduceSub, Array.replicate_succ, Array.replicate_zero, List.push_toArray, List.append_toArray, List.nil_append, List.cons_append]
  have HC := Lib.hid hc
  have HY := Lib.hid hY
  have HJ := Lib.hid hJ
  have H0 := Lib.hid h0
  clear hc hY hJ h0
  gi_wp2
  gi_loopw [7] (fun i wr => ∃ k : Nat, k ≤ len ∧ i = .int .i64 k ∧ J (uptoE F len k) wr ∧ KpE n₀ Bs W wr ∧ W.heap.size ≤ wr.heap.size)
    (fun i _ => len - (intOf i).toNat)
  case atStart => exact ⟨0, Nat.zero_le _, rfl, H0.out, KpE.refl _ _ _, Nat.le_refl _⟩
  case round =>
    obtain ⟨k, hk, rfl, hJs, hkp, hsz⟩ := hrel
    obtain ⟨wo, hwo⟩ : ∃ wo, wo = wr := ⟨_, rfl⟩
    subst hwo
    have HJs := Lib.hid hJs
    have HK := Lib.hid hkp
    have cB : wo.cell? ⟨Bs, 0, none⟩ = some (.slice (some ⟨b, o, none⟩) len cap) := (World.cell?_of_block (w := W) (a := ⟨Bs, 0, none⟩) hkp.2).trans hBs
    clear hJs hkp
    by_cases hlt : k < len
    · obtain ⟨m, hm⟩ : ∃ m, m = (k + 1) % len := ⟨_, rfl⟩
      have hml : m < len := by rw [hm]; exact Nat.mod_lt _ (by omega)
      obtain ⟨p0, p1⟩ := HC.out k hlt
      obtain ⟨q0, q1⟩ := HC.out m hml
      have hmod := tmod_nat (n := len) hm
      obtain ⟨p, hp⟩ : ∃ p, p = F k := ⟨_, rfl⟩
      obtain ⟨q, hq⟩ : ∃ q, q = F m := ⟨_, rfl⟩
      have HE := Lib.hid (show edgeAt F len k = (p, q) by unfold edgeAt; rw [hp, hq, hm])
      rw [← hp] at p0 p1
      rw [← hq] at q0 q1
      have c0 := kp' HK.out.1 hb p0
      have c1 := kp' HK.out.1 hb p1
      have d0 := kp' HK.out.1 hb q0
      have d1 := kp' HK.out.1 hb q1
      have hbl : b < wo.heap.size := cell_lt' c0
      have hBl : Bs < wo.heap.size := cell_lt' cB
      have hkI : (k : Int) < len := by omega
      have hmI : (m : Int) < len := by omega
      have hnz : (len : Int) ≠ 0 := by omega
      have hnz2 : ((len : Int) == 0) = false := by simp; omega
      have hJ1 := HJ.out _ _ _ none (HJ.out _ _ _ none HJs.out (World.grownBy_alloc wo (.cells #[.int .i64 p.x, .int .i64 p.y] 23) none) (by simp)) (show (wo.alloc (.cells #[.int .i64 p.x, .int .i64 p.y] 23)).grownBy (wo.alloc (.cells #[.int .i64 p.x, .int .i64 p.y] 23)).drew none from ⟨rfl, rfl, rfl, Nat.le_refl _, fun _ _ _ => rfl⟩) (by simp)
      obtain ⟨fn, tmps, assign, body, hy, hR⟩ := HY.out _ (p, q) _ hJ1 (by rw [uptoE_length]; exact hlt)
      dsimp only [encE] at hy
      have HR := Lib.hid hR
      have HKa := Lib.hid (show KpE n₀ Bs W (wo.alloc (.cells #[.int .i64 p.x, .int .i64 p.y] 23)).drew from HK.out.t ⟨((Below.refl n₀ wo).alloc (Nat.le_trans hn0 hsz) _).drew, (World.grownBy_alloc wo (.cells #[.int .i64 p.x, .int .i64 p.y] 23) none).block Bs hBl (by simp)⟩)
      clear p0 p1 q0 q1 hp hq hm hJ1 hR
      have hw1 : IntKind.i64.wrap ((k : Int) + 1) = (k : Int) + 1 := IntWalk.i64_in _ (by omega)
      have hw2 : wrap64 ((k : Int) + 1) = (k : Int) + 1 := by rw [wrap64_eq]; omega
      have hw3 : IntKind.i64.wrap (m : Int) = (m : Int) := IntWalk.i64_in _ (by omega)
      have hm0 : (0 : Int) ≤ (m : Int) := by omega
      have hmx : Try.prog.follows .mixedOrders = true := by kernel_rfl
      gi_upto_region 3 with fail
      gi_cut [23] from 9 (fun v wc => ∃ bb : Bool, v = .bool (!bb) ∧ ((bb = true ∧ J (uptoE F len k ++ [(p, q)]) wc ∧ KpE n₀ Bs (wo.alloc (.cells #[.int .i64 p.x, .int .i64 p.y] 23)).drew wc) ∨ (bb = false ∧ Jx (uptoE F len k ++ [(p, q)]) wc)))
      case first =>
        gi_region_with_o (refine HR.out.mono ?_; rintro e W3 h3; obtain ⟨bb, he, h4⟩ := yield_two h3; clear h3; subst he; have H3 := Lib.hid h4; clear h4)
        all_goals gi_wp2
        all_goals gi_meet
        all_goals exact ⟨_, rfl, H3.out⟩
      case rest =>
        obtain ⟨bb, rfl, ⟨rfl, hJ3, hk3⟩ | ⟨rfl, hJx3⟩⟩ := hcut
        · have HJ3 := Lib.hid (And.intro hJ3 hk3)
          clear hJ3 hk3 c0 c1 d0 d1 cB hmod hy hmx hw3
          gi_wp2
          clear hw1 hw2
          exact ⟨⟨k + 1, by omega, by first | rfl | go_num | simp, by rw [uptoE_succ, HE.out]; exact HJ3.out.1, HKa.out.t HJ3.out.2, Nat.le_trans HKa.out.1.size HJ3.out.2.1.size⟩, by simp [intOf]; omega⟩
        · have HJX := Lib.hid hJx3
          clear hJx3 c0 c1 d0 d1 cB hmod hy hmx hw3
          gi_wp2
          clear hw1 hw2
          refine bodyPost_ret (results_none rfl _ _ _) rfl ?_
          exact ⟨⟨_, rfl⟩, .inr ⟨_, ⟨k + 1, by omega, by rw [uptoE_succ, HE.out]⟩, HJX.out⟩⟩
    · obtain rfl : k = len := by omega
      gi_wp2
      go_end0
      exact ⟨⟨_, rfl⟩, .inl ⟨_, rfl, HJs.out⟩⟩
end Go.Proofs.Ytehmdokcdnlcdaa
