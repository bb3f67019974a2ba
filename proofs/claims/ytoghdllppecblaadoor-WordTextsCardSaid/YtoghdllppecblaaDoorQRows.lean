/- word's rows: an iterator over the table: its contract. -/
import Derived.Test.YtoghdllppecblaaDoorQTab
import Derived.RangeFuncNested
import Derived.RangeFuncBound
import Derived.RangeFuncCalls
import Derived.RangeFuncLeaves
import Derived.Shelf.Abstract
import Derived.Shelf.RegionOpen
import Derived.WalkKit
import Derived.OwnWalkIn
import Derived.TacticsInMore
import Derived.LoopNIn
import Derived.LoopIn
import Derived.Sort.CutIn
namespace Go.Proofs.YtoghdllppecblaaDoor
open Go.RowKit
set_option linter.unusedVariables false
set_option linter.unusedSimpArgs false

open Go.Shelf
attribute [local go_sem] Oper.semAt_some

abbrev encRw (x : Rw) : Array Value := #[.agg #[.int .i32 x.1, .int .i32 x.2.1, .string (mkB x.2.2)]]
theorem yield_two {e : Ending} {P Q : Prop} (h : (e = .returned (.bool true) ∧ P) ∨ (e = .returned (.bool false) ∧ Q)) : ∃ b : Bool, e = .returned (.bool b) ∧ ((b = true ∧ P) ∨ (b = false ∧ Q)) := by
  rcases h with ⟨h1, h2⟩ | ⟨h1, h2⟩
  · exact ⟨true, h1, .inl ⟨rfl, h2⟩⟩
  · exact ⟨false, h1, .inr ⟨rfl, h2⟩⟩

theorem take_snoc {k : Nat} {r : Rw} (h : tabL[k]? = some r) : tabL.take (k + 1) = tabL.take k ++ [r] := by rw [List.take_add_one, h]; rfl
set_option maxRecDepth 100000 in
set_option maxHeartbeats 4000000 in
theorem rows1_in (n : Nat) (hn : 1 ≤ n) (l : Nat) (J Jx : List Rw → World → Prop) (W : World) (hJ : AbidesFrom W.heap.size J)
    (hY : ∀ pre x W1, J pre W1 → pre.length < 40 → YieldAt Fence.wide (n - 1) Tryd.prog l (encRw x) W1 fun e W' =>
      (e = .returned (.bool true) ∧ J (pre ++ [x]) W' ∧ KeepsWalks W1 W') ∨ (e = .returned (.bool false) ∧ Jx (pre ++ [x]) W'))
    (hT : TabT W) (h0 : J [] W) :
    CallsIn Fence.wide n Tryd.prog 28 #[.func (.yield l) #[] #[]] W fun e W' => (∃ v, e = .returned v) ∧
      ((∃ ys, ys = tabL ∧ J ys W') ∨ (∃ pre, (∃ k, k ≤ 40 ∧ pre = tabL.take k) ∧ Jx pre W')) := by
  refine callsIn_of_wp Tryd.func28 rfl trivial ?_ rfl
  simp only [Tryd.ntmps28, List.size_toArray, List.length_cons, List.length_nil, Nat.reduceAdd, Nat.reduceSub, Array.replicate_succ, Array.replicate_zero, List.push_toArray, List.append_toArray, List.nil_append, List.cons_append]
  have hld := tab_load hT
  have HY := Lib.hid hY
  have HJ := Lib.hid hJ
  have H0 := Lib.hid h0
  clear hY hJ h0 hT
  gi_wp2_with (refine opIn_load _ _ rfl _ hld ?_)
  clear hld
  gi_loopw [5] (fun i wr => ∃ k : Nat, k ≤ 40 ∧ i = .int .i64 k ∧ J (tabL.take k) wr ∧ W.heap.size ≤ wr.heap.size)
    (fun i _ => 40 - (intOf i).toNat)
  case atStart => exact ⟨0, Nat.zero_le _, rfl, H0.out, Nat.le_refl _⟩
  case round =>
    obtain ⟨k, hk, rfl, hJs, hsz⟩ := hrel
    obtain ⟨wo, hwo⟩ : ∃ wo, wo = wr := ⟨_, rfl⟩
    subst hwo
    have HJs := Lib.hid hJs
    clear hJs
    by_cases hlt : k < 40
    · obtain ⟨r, hr⟩ := tab_at hlt
      have hix := tab_index wo k r hr
      have HR0 := Lib.hid hr
      clear hr
      have hkI : (k : Int) < 40 := by omega
      have hJ1 := HJ.out _ _ _ none HJs.out (World.grownBy_alloc wo (.cells #[.int .i32 r.1, .int .i32 r.2.1, .string (mkB r.2.2)] 51) none) (by simp)
      obtain ⟨fn, tmps, assign, body, hy, hR⟩ := HY.out _ r _ hJ1 (by rw [List.length_take, tab_len]; omega)
      dsimp only [encRw] at hy
      have HR := Lib.hid hR
      clear hR hJ1
      have hw1 : IntKind.i64.wrap ((k : Int) + 1) = (k : Int) + 1 := IntWalk.i64_in _ (by omega)
      gi_wp2_with (refine opIn_index _ _ _ rfl _ hix ?_)
      refine HR.out.mono ?_
      rintro e W3 (⟨rfl, hJ3, hk3⟩ | ⟨rfl, hJx3⟩)
      · have HJ3 := Lib.hid hJ3
        have hs3 := hk3.1
        clear hJ3 hk3 hy hix
        gi_wp2
        clear hw1
        exact ⟨⟨k + 1, by omega, by first | rfl | go_num | simp, by rw [take_snoc HR0.out]; exact HJ3.out, by simp at hs3; omega⟩, by simp [intOf]; omega⟩
      · have HJX := Lib.hid hJx3
        clear hJx3 hy hix
        gi_wp2
        clear hw1
        refine bodyPost_ret (results_none rfl _ _ _) rfl ?_
        exact ⟨⟨_, rfl⟩, .inr ⟨_, ⟨k + 1, by omega, by rw [take_snoc HR0.out]⟩, HJX.out⟩⟩
    · obtain rfl : k = 40 := by omega
      gi_wp2
      go_end0
      exact ⟨⟨_, rfl⟩, .inl ⟨_, (by rw [List.take_of_length_le (by rw [tab_len]; omega)]), HJs.out⟩⟩
end Go.Proofs.YtoghdllppecblaaDoor
