/- the law's one: a posting in memory of its own. -/
import Derived.Test.YthpfaaindkkpcaaBAwake
import Derived.Deep.RegionHeldLaw
namespace Go.Proofs.Ythpfaaindkkpcaa
open Go.RowKit Go.Maps
set_option linter.unusedVariables false
set_option linter.unusedSimpArgs false

/-- The first n of F as a list. -/
def listF (F : Nat → Int) (n : Nat) : List Int := (List.range n).map F
theorem listF_len (F : Nat → Int) (n : Nat) : (listF F n).length = n := by simp [listF]
theorem listF_get (F : Nat → Int) (n i : Nat) (h : i < n) : (listF F n).getD i 0 = F i := by simp [listF, List.getD_eq_getElem?_getD, h]
theorem intsL_get {F : Nat → Int} {n j : Nat} {v : Value} (h : (intsL (listF F n))[j]? = some v) : j < n ∧ v = .int .i64 (F j) := by
  obtain ⟨hj, e⟩ := List.getElem?_eq_some_iff.1 h
  simp [listF] at hj e
  exact ⟨hj, e.symm⟩
/-- An append of ints that can be read to a row of the call's own, as a step of a region that draws its order. -/
theorem step_append_int {P : Program} {ops : Array Oper} {o : Oper} {a : Act} {w : World} {K : Act → World → Prop} {Q : Exit → Act → World → Prop} {E : Prop} (hgd : o.guard = none) (s x : Operand) (t : TypeId)
    (ho : o.op = .call { callee := .builtin .append, args := #[s, x], argTypes := #[t, t] }) (ht : P.underlying t = some (.slice 3))
    (hinfo : (P.info? 3).map (fun i => (i.zero, i.size, i.bytes)) = some (some (.int .i64 0), 1, 8))
    (base : Nat) (v : Value) (xs : List Int) (hs : a.eval s = v) (hown : OwnI w base v xs)
    (B : Option Addr) (m d : Nat) (G : Nat → Int) (hx : a.eval x = .slice B m d) (hsrc : Ints w B m G) (hnil : B = none → d = 0) (hsmall : (xs.length + m) * 8 ≤ 140737488355328) (hbase : base ≤ w.heap.size)
    (h : ∀ v' w', Hid (OwnI w' base v' (xs ++ listF G m)) → Hid (w.grownBy w' v.ownBlock) → Hid (v'.ownBlock = v.ownBlock ∨ v'.ownBlock = some w.heap.size) → K (a.put o.dst v') w') :
    if Region.wanted o (yielded ops a.tmps) = true then Oper.wp P o a w K Q else E := by
  have hw : Region.wanted o (yielded ops a.tmps) = true := by simp [Region.wanted, hgd]
  rw [if_pos hw]
  obtain ⟨i0, hi0, hz0, hz1, hz2⟩ := info_parts hinfo
  rcases B with _ | ad
  · have hm : m = 0 := by
      rcases Nat.eq_zero_or_pos m with h0 | h0
      · exact h0
      · obtain ⟨b, ob, e, _⟩ := hsrc.2.2 h0; cases e
    have hd := hnil rfl
    subst hm hd
    have hrun := run_append_owned_none (P := P) (w := w) base t o.type 3 i0 1 ht hi0 _ xs.length _ hown
    unfold Oper.wp
    simp [execOp, ho, resolve, invoke, builtin, hs, hx, hrun, Result.andThen]
    exact h v w (by simpa [listF] using Lib.hid hown) (Lib.hid (World.grownBy.refl w _)) (Lib.hid (.inl rfl))
  · obtain ⟨v', w', hr, ho1, hg1, _, hb1⟩ := run_append_own_at (P := P) w base t o.type 3 i0 (.int .i64 0) 1 8 ht hi0 hz0 hz1 hz2 rfl (by omega) v xs.length _ hown ad m d (intsL (listF G m)) (by simp [listF_len]) (by
      intro j u hv
      obtain ⟨hj, rfl⟩ := intsL_get hv
      obtain ⟨b, ob, e, hc⟩ := hsrc.2.2 (by omega)
      injection e with e
      subst e
      have := hc j hj
      unfold Addr.add
      split
      · rename_i h0; subst h0; simpa using this
      · simpa using this) (ints_oneCell .i64 (listF G m)) (by unfold maxLen; omega) (by omega) hbase
    unfold Oper.wp
    simp [execOp, ho, resolve, invoke, builtin, hs, hx, hr, Result.andThen]
    refine h v' w' (Lib.hid ?_) (Lib.hid hg1) (Lib.hid hb1)
    have e1 : (xs ++ listF G m).length = xs.length + m := by rw [List.length_append, listF_len]
    have e2 : intsL (xs ++ listF G m) = intsL xs ++ intsL (listF G m) := by simp [intsL]
    show w'.ownsRow base 3 1 v' (xs ++ listF G m).length (intsL (xs ++ listF G m))
    rw [e1, e2]; exact ho1
theorem own_empty_i (w : World) (base : Nat) (hb : base ≤ w.heap.size) : OwnI (w.alloc (.cells #[] 3)) base (.slice (some ⟨w.heap.size, 0, none⟩) 0 0) [] :=
  World.ownsRow_lit w #[] 0 hb (by unfold maxLen; omega) rfl
abbrev BoxP (w1 : World) (b : Nat) (row len : Int) (A : Option Addr) (n c : Nat) (W : World) : Prop := Below (b + 1) w1 W ∧ W.cell? ⟨b, 0, none⟩ = some (.int .i64 row) ∧ W.cell? ⟨b, 1, none⟩ = some (.int .i64 len) ∧ W.cell? ⟨b, 2, none⟩ = some (.slice A n c)
theorem boxP_drew {w1 W : World} {b : Nat} {row len : Int} {A : Option Addr} {n c : Nat} (h : BoxP w1 b row len A n c W) : BoxP w1 b row len A n c W.drew := ⟨h.1.drew, h.2⟩
theorem boxP_keep {w1 W W' : World} {b : Nat} {row len : Int} {A : Option Addr} {n c : Nat} (l : Below (b + 1) W W') (h : BoxP w1 b row len A n c W) : BoxP w1 b row len A n c W' :=
  ⟨h.1.trans l, kcell l (Nat.lt_succ_self _) h.2.1, kcell l (Nat.lt_succ_self _) h.2.2.1, kcell l (Nat.lt_succ_self _) h.2.2.2⟩
theorem boxP_alloc {w1 W : World} {b : Nat} {row len : Int} {A : Option Addr} {n c : Nat} (o : Obj) (h : BoxP w1 b row len A n c W) : BoxP w1 b row len A n c (W.alloc o) :=
  boxP_keep ((Below.refl _ _).alloc (cell_in h.2.1) _) h
theorem boxP_set {w1 W : World} {b o : Nat} {row len : Int} {A : Option Addr} {n c : Nat} (v : Value) (h : BoxP w1 b row len A n c W) : BoxP w1 b row len A n c (W.setCell ⟨b + 1, o, none⟩ v) :=
  boxP_keep ((Below.refl (b + 1) W).setCell (p := ⟨b + 1, o, none⟩) (Nat.le_refl _) _) h
theorem own_list {w : World} {base : Nat} {v : Value} {F : Nat → Int} {n : Nat} (h : OwnI w base v (listF F n)) (hF : ∀ i, i < n → In64 (F i)) : ∃ A c, v = .slice A n c ∧ Ints w A n F ∧ (A = none → c = 0) ∧ (∀ b o, A = some ⟨b, o, none⟩ → base ≤ b) := by
  have hv := h
  obtain ⟨hl, h0 | ⟨g, cap, cur, rfl, hg, hh, r⟩⟩ := hv
  · obtain ⟨rfl, h0⟩ := h0
    rw [listF_len] at h0
    subst h0
    exact ⟨none, 0, rfl, ⟨by omega, fun i hi => absurd hi (by omega), fun hn => absurd hn (by omega)⟩, fun _ => rfl, fun b o e => by cases e⟩
  · refine ⟨_, cap, by rw [listF_len], ?_, (fun e => by cases e), fun b o e => by cases e; exact hg⟩
    have hi := own_ints h (by
      intro x hx
      obtain ⟨i, hi, rfl⟩ := List.mem_map.1 hx
      exact hF i (List.mem_range.1 hi))
    rw [listF_len] at hi
    exact ⟨hi.1, fun i hi2 => hF i hi2, fun hn => by
      obtain ⟨b, o, e, hc⟩ := hi.2.2 hn
      exact ⟨b, o, e, fun i hi2 => by rw [hc i hi2]; exact congrArg (fun z => some (Value.int .i64 z)) (listF_get F n i hi2)⟩⟩
theorem below_own {W W' : World} {v : Value} {xs : List Int} {base : Nat} (hg : W.grownBy W' v.ownBlock) (ho : OwnI W base v xs) (hs : base ≤ W.heap.size) : Below base W W' := (Below.refl _ _).grown hg hs (fun k hk => (ho.lt k hk).1)
theorem three_set (w : World) (g : Nat) (x y z : Value) {a b c : Value} (h0 : w.cell? ⟨g, 0, none⟩ = some a) (h1 : w.cell? ⟨g, 1, none⟩ = some b) (h2 : w.cell? ⟨g, 2, none⟩ = some c) :
    (((w.setCell ⟨g, 0, none⟩ x).setCell ⟨g, 1, none⟩ y).setCell ⟨g, 2, none⟩ z).cell? ⟨g, 0, none⟩ = some x ∧ (((w.setCell ⟨g, 0, none⟩ x).setCell ⟨g, 1, none⟩ y).setCell ⟨g, 2, none⟩ z).cell? ⟨g, 1, none⟩ = some y ∧ (((w.setCell ⟨g, 0, none⟩ x).setCell ⟨g, 1, none⟩ y).setCell ⟨g, 2, none⟩ z).cell? ⟨g, 2, none⟩ = some z := by
  refine ⟨?_, ?_, ?_⟩ <;> go_simp
theorem three_other (w : World) (g : Nat) (x y z : Value) (k : Nat) (hk : k ≠ g) : (((w.setCell ⟨g, 0, none⟩ x).setCell ⟨g, 1, none⟩ y).setCell ⟨g, 2, none⟩ z).heap[k]? = w.heap[k]? := by
  rw [Below.heap_setCell _ ⟨g, 2, none⟩ z k hk, Below.heap_setCell _ ⟨g, 1, none⟩ y k hk, Below.heap_setCell _ ⟨g, 0, none⟩ x k hk]
theorem three_below (w : World) (g : Nat) (x y z : Value) : Below g w (((w.setCell ⟨g, 0, none⟩ x).setCell ⟨g, 1, none⟩ y).setCell ⟨g, 2, none⟩ z) :=
  (((Below.refl g w).setCell (p := ⟨g, 0, none⟩) (Nat.le_refl _) _).setCell (p := ⟨g, 1, none⟩) (Nat.le_refl _) _).setCell (p := ⟨g, 2, none⟩) (Nat.le_refl _) _
set_option maxHeartbeats 8000000 in
theorem one_new (row len : Int) (A : Option Addr) (n c : Nat) (F : Nat → Int) (w : World) (hI : Ints w A n F) (hnil : A = none → c = 0) (hn : n ≤ 1000000) : Calls Try.prog 20 #[.agg #[.int .i64 row, .int .i64 len, .slice A n c]] w fun e w' => ∃ A' c', e = .returned (.agg #[.int .i64 row, .int .i64 len, .slice A' n c']) ∧ Ints w' A' n F ∧ (A' = none → c' = 0) ∧ Below w.heap.size w w' ∧ (∀ b o, A' = some ⟨b, o, none⟩ → w.heap.size ≤ b) := by
  have HI := Lib.hid hI
  have HN := Lib.hid hnil
  clear hI hnil
  go_enter Try.func20, Try.ntmps20
  go_wp2_with fail
  have SB0 : BoxP ((w.alloc (.cells #[.int .i64 row, .int .i64 len, .slice A n c] 44)).alloc (.cells #[.int .i64 0, .int .i64 0, .slice none 0 0] 48)) w.heap.size row len A n c ((w.alloc (.cells #[.int .i64 row, .int .i64 len, .slice A n c] 44)).alloc (.cells #[.int .i64 0, .int .i64 0, .slice none 0 0] 48)) := ⟨Below.refl _ _, by go_simp, by go_simp, by go_simp⟩
  have hB : Below w.heap.size w ((w.alloc (.cells #[.int .i64 row, .int .i64 len, .slice A n c] 44)).alloc (.cells #[.int .i64 0, .int .i64 0, .slice none 0 0] 48)) := ((Below.refl _ _).alloc (Nat.le_refl _) _).alloc (by simp) _
  have hT : ((w.alloc (.cells #[.int .i64 row, .int .i64 len, .slice A n c] 44)).alloc (.cells #[.int .i64 0, .int .i64 0, .slice none 0 0] 48)).heap[w.heap.size + 1]? = some (.cells #[.int .i64 0, .int .i64 0, .slice none 0 0] 48 (0, 0)) := by
    have h := heap_alloc_new (w.alloc (.cells #[.int .i64 row, .int .i64 len, .slice A n c] 44)) (.cells #[.int .i64 0, .int .i64 0, .slice none 0 0] 48)
    rwa [World.size_alloc] at h
  have hq : ((w.alloc (.cells #[.int .i64 row, .int .i64 len, .slice A n c] 44)).alloc (.cells #[.int .i64 0, .int .i64 0, .slice none 0 0] 48)).heap.size = w.heap.size + 2 := by simp
  generalize ((w.alloc (.cells #[.int .i64 row, .int .i64 len, .slice A n c] 44)).alloc (.cells #[.int .i64 0, .int .i64 0, .slice none 0 0] 48)) = w1 at *
  have SB := Lib.hid SB0
  have hq2 : w.heap.size < w1.heap.size := by omega
  have hq3 : w.heap.size + 1 < w1.heap.size := by omega
  have HQ := Lib.hid hq
  have HB := Lib.hid hB
  have HT := Lib.hid hT
  have HSrc : Hid (∀ W : World, Below w1.heap.size w1 W → Ints W A n F) := Lib.hid fun W l => (HI.out.below hB (Nat.le_refl _)).below l (Nat.le_refl _)
  have HO : Hid (OwnI (w1.alloc (.cells #[] 3)).drew w1.heap.size (.slice (some ⟨w1.heap.size, 0, none⟩) 0 0) []) := Lib.hid (own_empty_i w1 w1.heap.size (Nat.le_refl _))
  have HSz : Hid (w1.heap.size ≤ (w1.alloc (.cells #[] 3)).drew.heap.size) := Lib.hid (by show w1.heap.size ≤ (w1.alloc _).heap.size; simp)
  have HSb := Lib.hid (boxP_drew (boxP_alloc (.cells #[] 3) SB.out))
  have HB0 : Hid (Below w1.heap.size w1 (w1.alloc (.cells #[] 3)).drew) := Lib.hid (((Below.refl _ _).alloc (Nat.le_refl _) _).drew)
  have HSr := Lib.hid (HSrc.out _ HB0.out)
  have HT2 : Hid ((w1.alloc (.cells #[] 3)).drew.heap[w.heap.size + 1]? = some (.cells #[.int .i64 0, .int .i64 0, .slice none 0 0] 48 (0, 0))) := Lib.hid ((HB0.out.block _ hq3).trans HT.out)
  have HF : Hid (∀ i, i < n → In64 (F i)) := Lib.hid fun i hi => HI.out.2.1 i hi
  have HLn : Hid ((([] : List Int).length + n) * 8 ≤ 140737488355328) := Lib.hid (by simp; omega)
  clear SB0 hB hT hq
  go_region_held_law (fun W => Below (w.heap.size + 1) w1 W ∧ W.cell? ⟨w.heap.size, 0, none⟩ = some (.int .i64 row) ∧ W.cell? ⟨w.heap.size, 1, none⟩ = some (.int .i64 len) ∧ W.cell? ⟨w.heap.size, 2, none⟩ = some (.slice A n c)) (repeat (first | with_reducible assumption | with_reducible exact SB.out | with_reducible refine boxP_alloc _ ?_ | with_reducible refine boxP_drew ?_ | with_reducible refine boxP_set _ ?_)) (first
    | ((refine step_append_int rfl (.tmp 7) (.tmp 9) 42 rfl Try.underlying42 intInfo w1.heap.size (.slice (some ⟨w1.heap.size, 0, none⟩) 0 0) [] rfl HO.out A n c F rfl HSr.out HN.out HLn.out HSz.out ?_); intro v' w' hown hgr _; have hb9 : Below w1.heap.size (w1.alloc (.cells #[] 3)).drew w' := below_own hgr.out HO.out HSz.out; have hS : BoxP w1 w.heap.size row len A n c w' := boxP_keep (hb9.mono (Nat.le_of_lt hq3)) HSb.out; obtain ⟨A2, c2, rfl, hI2, hN2, hD2⟩ := own_list (show OwnI w' w1.heap.size v' (listF F n) from hown.out) HF.out; have HI2 := Lib.hid hI2; have HN2 := Lib.hid hN2; have HD2 := Lib.hid hD2; clear hI2 hN2 hD2; have hTb : w'.heap[w.heap.size + 1]? = some (.cells #[.int .i64 0, .int .i64 0, .slice none 0 0] 48 (0, 0)) := (hb9.block _ hq3).trans (HT2.out); have t0 : w'.cell? ⟨w.heap.size + 1, 0, none⟩ = some (.int .i64 0) := cell_of_row _ _ _ _ _ _ hTb; have t1 : w'.cell? ⟨w.heap.size + 1, 1, none⟩ = some (.int .i64 0) := cell_of_row _ _ _ _ _ _ hTb; have t2 : w'.cell? ⟨w.heap.size + 1, 2, none⟩ = some (.slice none 0 0) := cell_of_row _ _ _ _ _ _ hTb; have fr0 := frozen_of_row _ _ 0 _ _ hTb; have fr1 := frozen_of_row _ _ 1 _ _ hTb; have fr2 := frozen_of_row _ _ 2 _ _ hTb; have HTb := Lib.hid hTb; have HB9 := Lib.hid hb9; clear hTb hb9 hown hgr))
  have hc0 := World.cell?_setCell_same' w' ⟨w.heap.size + 1, 0, none⟩ (.int .i64 row) (by rw [t0]; rfl)
  obtain ⟨k0, k1, k2⟩ := three_set w' (w.heap.size + 1) (.int .i64 row) (.int .i64 len) (.slice A2 n c2) t0 t1 t2
  have hb := three_below w' (w.heap.size + 1) (.int .i64 row) (.int .i64 len) (.slice A2 n c2)
  have ho := three_other w' (w.heap.size + 1) (.int .i64 row) (.int .i64 len) (.slice A2 n c2)
  generalize (((w'.setCell ⟨w.heap.size + 1, 0, none⟩ (.int .i64 row)).setCell ⟨w.heap.size + 1, 1, none⟩ (.int .i64 len)).setCell ⟨w.heap.size + 1, 2, none⟩ (.slice A2 n c2)) = W9 at *
  have hI9 : Ints W9 A2 n F := HI2.out.keep fun b o e hn => ho b (by have := HD2.out b o e; omega)
  have HI9 := Lib.hid hI9
  have HL := Lib.hid (HB.out.trans (((HB0.out.mono (show w.heap.size ≤ w1.heap.size by omega)).trans (HB9.out.mono (show w.heap.size ≤ w1.heap.size by omega))).trans (hb.mono (Nat.le_succ _))))
  clear hI9 hb ho hc0 t0 t1 t2 fr0 fr1 fr2
  go_wp2_with fail
  refine bodyPost_ret (v := .agg #[.int .i64 row, .int .i64 len, .slice A2 n c2]) (by simp [results, Try.results20, go_sem, k0, k1, k2]) rfl ⟨A2, c2, rfl, HI9.out, HN2.out, HL.out, fun b o e => by have := HD2.out b o e; omega⟩
theorem one_any (row len : Int) (A : Option Addr) (n c : Nat) (F : Nat → Int) (w : World) (hI : Ints w A n F) (hnil : A = none → c = 0) (hn : n ≤ 1000000) : Calls Try.prog 20 #[.agg #[.int .i64 row, .int .i64 len, .slice A n c]] w fun e w' => ∃ A' c', e = .returned (.agg #[.int .i64 row, .int .i64 len, .slice A' n c']) ∧ Ints w' A' n F ∧ (A' = none → c' = 0) ∧ Below w.heap.size w w' :=
  (one_new row len A n c F w hI hnil hn).mono fun e w' ⟨A', c', h1, h2, h3, h4, _⟩ => ⟨A', c', h1, h2, h3, h4⟩
end Go.Proofs.Ythpfaaindkkpcaa
