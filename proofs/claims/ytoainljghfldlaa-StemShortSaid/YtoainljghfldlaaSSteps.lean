/- stem's steps. -/
import Derived.Test.YtoainljghfldlaaSTurn
import Derived.Deep.WholeRow
namespace Go.Proofs.Ytoainljghfldlaa
open Go.RowKit
set_option linter.unusedVariables false
set_option linter.unusedSimpArgs false

open Go.Shelf
attribute [local go_sem] Oper.semAt_some
/-- A whole array into the block that was made last. -/
theorem opIn_storeNew {F : Fence} {n : Nat} {P : Program} {o : Oper} {a : Act} {w : World} {K : Act → World → Prop} {Q : Exit → Act → World → Prop} (ty : TypeId) (p x : Operand) (ho : o.op = .store ty p x) (W : World) (c c' : Array Value)
    (hw : w = W.alloc (.cells c ty)) (hp : a.eval p = .pointer (some ⟨W.heap.size, 0, none⟩)) (hx : a.eval x = .agg c') (hi : (P.info? ty).map (·.size) = some c'.size) (hs : c.size = c'.size) (h1 : c'.all (·.oneCell') = true)
    (hK : K (a.put o.dst undef) (W.alloc (.cells c' ty))) : Oper.wpIn F n P o a w K Q := by
  refine ⟨fun f hf => by simp [Oper.about, ho] at hf, ?_⟩
  have e : o.semAt F.round a.eval = execOp a.eval o := by unfold Oper.semAt; rw [ho]; cases F.round <;> rfl
  have : (o.semAt F.round a.eval).run P w = .ok .skip (W.alloc (.cells c' ty)) := by
    rw [e]
    unfold execOp
    subst hw
    simp only [ho, Sem.run_bind, Sem.run_pure, hp, hx, run_storeAt_new W ty c c' hi hs h1, Result.andThen_ok]
  rw [this]
  exact hK
def cellE (b b' : Nat) (r : EndR) : List Value := [.string (mkB r.fr), .string (mkB r.to), r.ask.val b b']
def cellsE (b b' : Nat) (rs : List EndR) : List Value := rs.flatMap (cellE b b')
theorem cellsE_at (b b' : Nat) : ∀ (l : List EndR) (i : Nat) (x : EndR), l[i]? = some x → ∀ j, j < 3 → (cellsE b b' l)[i * 3 + j]? = (cellE b b' x)[j]?
  | [], i, x, h, _, _ => by simp at h
  | y :: t, 0, x, h, j, hj => by
    simp at h
    subst h
    unfold cellsE
    rw [List.flatMap_cons, List.getElem?_append_left (by simp [cellE]; omega)]
    simp
  | y :: t, i + 1, x, h, j, hj => by
    have ih := cellsE_at b b' t i x (by simpa using h) j hj
    unfold cellsE at ih ⊢
    rw [List.flatMap_cons, List.getElem?_append_right (by simp [cellE]; omega)]
    have : (i + 1) * 3 + j - (cellE b b' y).length = i * 3 + j := by simp [cellE]; omega
    rw [this, ih]
theorem rdE_made (W : World) (b b' : Nat) (rs : List EndR) (T : TypeId) (g : Nat) (hg : g = W.heap.size) : RdE (W.alloc (.cells (cellsE b b' rs).toArray T)) g b b' rs := fun k r hk => by
  have h := cellsE_at b b' rs k r hk
  have hc : ∀ j, j < 3 → (W.alloc (.cells (cellsE b b' rs).toArray T)).cell? ⟨g, k * 3 + j, none⟩ = (cellE b b' r)[j]? := fun j hj => by
    rw [World.cell?, hg, World.alloc_heap_new]
    simp only [List.getElem?_toArray]
    exact h j hj
  exact ⟨hc 0 (by omega), hc 1 (by omega), hc 2 (by omega)⟩
def quietA : Ask → Bool
  | .always => true
  | .voiced => true
  | .cvc => true
  | _ => false
def aboveA : Ask → Bool
  | .above 0 => true
  | a => quietA a
def manyA : Ask → Bool
  | .above 1 => true
  | .behind => true
  | _ => false
theorem ok_quiet {a : Ask} (W : World) (b b' : Nat) (h : quietA a = true) : a.ok W b b' := by
  cases a with
  | above m => cases h
  | behind => cases h
  | always => trivial
  | voiced => trivial
  | cvc => trivial
theorem ok_above {a : Ask} {W : World} {b : Nat} (b' : Nat) (h : aboveA a = true) (hc : W.cell? ⟨b, 0, none⟩ = some (.int .i64 (0 : Nat))) : a.ok W b b' := by
  cases a with
  | above m => cases m with
    | zero => exact ⟨hc, by omega⟩
    | succ m => cases h
  | behind => cases h
  | always => trivial
  | voiced => trivial
  | cvc => trivial
theorem ok_many {a : Ask} {W : World} {b b' : Nat} (h : manyA a = true) (hc : W.cell? ⟨b, 0, none⟩ = some (.int .i64 (1 : Nat))) (hc' : W.cell? ⟨b', 0, none⟩ = some (.func (.func 35) #[] #[.pointer (some ⟨b, 0, none⟩)])) : a.ok W b b' := by
  cases a with
  | above m => match m, h with
    | 1, _ => exact ⟨hc, by omega⟩
  | behind => exact ⟨hc', hc⟩
  | always => cases h
  | voiced => cases h
  | cvc => cases h
set_option maxRecDepth 100000 in
set_option maxHeartbeats 8000000 in
theorem step1a_any (t : List UInt8) (ht : t.length ≤ 1000000) (w : World) : Calls Try.prog 16 #[.string (mkB t)] w fun e w' => e = .returned (.string (mkB (s1aL t))) ∧ Below w.heap.size w w' := by
  have HR := Lib.hid (rdE_made w 0 0 r1a 36 w.heap.size (by simp))
  have HC := Lib.hid (turned_any t ht r1a (by decide) (by decide) w.heap.size 0 0 4 (w.alloc (.cells (cellsE 0 0 r1a).toArray 36)) HR.out (fun r hr => ok_quiet _ _ _ (List.all_eq_true.1 (show (r1a.all fun r => quietA r.ask) = true by decide) r hr)))
  have HB := Lib.hid ((Below.refl w.heap.size w).alloc (Nat.le_refl _) (.cells (cellsE 0 0 r1a).toArray 36))
  refine (callsIn_wide (n := 5)).1 ?_
  refine callsIn_of_wp Try.func16 rfl trivial ?_ rfl
  simp only [Try.ntmps16, List.size_toArray, List.length_cons, List.length_nil, Nat.reduceAdd, Nat.reduceSub, Array.replicate_succ, Array.replicate_zero, List.push_toArray, List.append_toArray, List.nil_append, List.cons_append]
  gi_wp2_with (first
    | (refine opIn_storeNew 36 (.tmp 3) (.tmp 8) rfl w _ (cellsE 0 0 r1a).toArray rfl rfl rfl (by kernel_rfl) rfl (by kernel_rfl) ?_)
    | (refine ⟨trivial, ?_⟩; gi_at_call 25; refine CallsIn.mono (callsIn_wide.2 HC.out) ?_; rintro _ w2 ⟨rfl, hb2⟩; have HB2 := Lib.hid (HB.out.trans (hb2.mono HB.out.size)); clear hb2))
  go_ret
  exact ⟨rfl, HB2.out⟩
set_option maxRecDepth 100000 in
set_option maxHeartbeats 8000000 in
theorem step1c_any (t : List UInt8) (ht : t.length ≤ 1000000) (w : World) : Calls Try.prog 18 #[.string (mkB t)] w fun e w' => e = .returned (.string (mkB (s1cL t))) ∧ Below w.heap.size w w' := by
  have HR := Lib.hid (rdE_made w 0 0 r1c 43 w.heap.size (by simp))
  have HC := Lib.hid (turned_any t ht r1c (by decide) (by decide) w.heap.size 0 0 1 (w.alloc (.cells (cellsE 0 0 r1c).toArray 43)) HR.out (fun r hr => ok_quiet _ _ _ (List.all_eq_true.1 (show (r1c.all fun r => quietA r.ask) = true by decide) r hr)))
  have HB := Lib.hid ((Below.refl w.heap.size w).alloc (Nat.le_refl _) (.cells (cellsE 0 0 r1c).toArray 43))
  refine (callsIn_wide (n := 5)).1 ?_
  refine callsIn_of_wp Try.func18 rfl trivial ?_ rfl
  simp only [Try.ntmps18, List.size_toArray, List.length_cons, List.length_nil, Nat.reduceAdd, Nat.reduceSub, Array.replicate_succ, Array.replicate_zero, List.push_toArray, List.append_toArray, List.nil_append, List.cons_append]
  gi_wp2_with (first
    | (refine opIn_storeNew 43 (.tmp 3) (.tmp 5) rfl w _ (cellsE 0 0 r1c).toArray rfl rfl rfl (by kernel_rfl) rfl (by kernel_rfl) ?_)
    | (refine ⟨trivial, ?_⟩; gi_at_call 25; refine CallsIn.mono (callsIn_wide.2 HC.out) ?_; rintro _ w2 ⟨rfl, hb2⟩; have HB2 := Lib.hid (HB.out.trans (hb2.mono HB.out.size)); clear hb2))
  go_ret
  exact ⟨rfl, HB2.out⟩
set_option maxRecDepth 100000 in
set_option maxHeartbeats 8000000 in
theorem step5a_any (t : List UInt8) (ht : t.length ≤ 1000000) (w : World) : Calls Try.prog 22 #[.string (mkB t)] w fun e w' => e = .returned (.string (mkB (s5aL t))) ∧ Below w.heap.size w w' := by
  have HR := Lib.hid (rdE_made w 0 0 r5a 43 w.heap.size (by simp))
  have HC := Lib.hid (turned_any t ht r5a (by decide) (by decide) w.heap.size 0 0 1 (w.alloc (.cells (cellsE 0 0 r5a).toArray 43)) HR.out (fun r hr => ok_quiet _ _ _ (List.all_eq_true.1 (show (r5a.all fun r => quietA r.ask) = true by decide) r hr)))
  have HB := Lib.hid ((Below.refl w.heap.size w).alloc (Nat.le_refl _) (.cells (cellsE 0 0 r5a).toArray 43))
  refine (callsIn_wide (n := 5)).1 ?_
  refine callsIn_of_wp Try.func22 rfl trivial ?_ rfl
  simp only [Try.ntmps22, List.size_toArray, List.length_cons, List.length_nil, Nat.reduceAdd, Nat.reduceSub, Array.replicate_succ, Array.replicate_zero, List.push_toArray, List.append_toArray, List.nil_append, List.cons_append]
  gi_wp2_with (first
    | (refine opIn_storeNew 43 (.tmp 4) (.tmp 7) rfl w _ (cellsE 0 0 r5a).toArray rfl rfl rfl (by kernel_rfl) rfl (by kernel_rfl) ?_)
    | (refine ⟨trivial, ?_⟩; gi_at_call 25; refine CallsIn.mono (callsIn_wide.2 HC.out) ?_; rintro _ w2 ⟨rfl, hb2⟩; have HB2 := Lib.hid (HB.out.trans (hb2.mono HB.out.size)); clear hb2))
  go_ret
  exact ⟨rfl, HB2.out⟩
set_option maxRecDepth 100000 in
set_option maxHeartbeats 8000000 in
theorem step3_any (t : List UInt8) (ht : t.length ≤ 1000000) (w : World) : Calls Try.prog 20 #[.string (mkB t)] w fun e w' => e = .returned (.string (mkB (s3L t))) ∧ Below w.heap.size w w' := by
  have HR := Lib.hid (rdE_made (w.alloc (.cells #[.int .i64 (0 : Nat)] 3)) w.heap.size 0 r3 45 (w.heap.size + 1) (by simp))
  have HC := Lib.hid (turned_any t ht r3 (by decide) (by decide) (w.heap.size + 1) w.heap.size 0 7 ((w.alloc (.cells #[.int .i64 (0 : Nat)] 3)).alloc (.cells (cellsE w.heap.size 0 r3).toArray 45)) HR.out (fun r hr => ok_above _ (List.all_eq_true.1 (show (r3.all fun r => aboveA r.ask) = true by decide) r hr) (by go_simp)))
  have HB := Lib.hid (((Below.refl w.heap.size w).alloc (Nat.le_refl _) (.cells #[.int .i64 (0 : Nat)] 3)).alloc (by simp) (.cells (cellsE w.heap.size 0 r3).toArray 45))
  refine (callsIn_wide (n := 5)).1 ?_
  refine callsIn_of_wp Try.func20 rfl trivial ?_ rfl
  simp only [Try.ntmps20, List.size_toArray, List.length_cons, List.length_nil, Nat.reduceAdd, Nat.reduceSub, Array.replicate_succ, Array.replicate_zero, List.push_toArray, List.append_toArray, List.nil_append, List.cons_append]
  gi_wp2_with (first
    | (refine ⟨trivial, ?_⟩; gi_at_call 26; refine CallsIn.mono (callsIn_wide.2 (above_any 0 _)) ?_; rintro _ _ ⟨rfl, rfl⟩)
    | (refine opIn_storeNew 45 (.tmp 4) (.tmp 20) rfl (w.alloc (.cells #[.int .i64 (0 : Nat)] 3)) _ (cellsE w.heap.size 0 r3).toArray rfl ?hp rfl (by kernel_rfl) rfl (by kernel_rfl) ?_; case hp => (first | rfl | (simp [Act.eval, World.size_alloc]; done)))
    | (refine ⟨trivial, ?_⟩; gi_at_call 25; refine CallsIn.mono (callsIn_wide.2 HC.out) ?_; rintro _ w2 ⟨rfl, hb2⟩; have HB2 := Lib.hid (HB.out.trans (hb2.mono HB.out.size)); clear hb2))
  go_ret
  exact ⟨rfl, HB2.out⟩
end Go.Proofs.Ytoainljghfldlaa
