/- block.Follow of two postings that may be: the set of the second one's places, the first one's looked up. -/
import Derived.Test.YthpfaaindkkpcaaBFollow
namespace Go.Proofs.Ythpfaaindkkpcaa
open Go.RowKit Go.Maps
set_option linter.unusedVariables false
set_option linter.unusedSimpArgs false

def setG (G : Nat → Int) (k : Nat) : DataW Unit := setOf (.agg []) ((List.range k).map fun j => Lit.int .i64 (G j))
theorem setG_zero (G : Nat → Int) : setG G 0 = .map [] := by simp [setG, setOf]
theorem setG_succ (G : Nat → Int) (k : Nat) : setG G (k + 1) = (setG G k).put (.int .i64 (G k)) (.agg []) := by
  unfold setG
  rw [List.range_succ, List.map_append, List.map_singleton, setOf_snoc]
theorem has_setG (G : Nat → Int) (m : Nat) (x : Int) : Maps.has (setG G m) (.int .i64 x) = amongB G m x := by
  unfold setG amongB
  rw [has_setOf _ _ _ (fun y hy => by obtain ⟨_, _, rfl⟩ := List.mem_map.1 hy; trivial), List.any_map, Bool.eq_iff_iff, List.any_eq_true, decide_eq_true_eq]
  constructor
  · rintro ⟨j, hj, h⟩
    refine ⟨j, List.mem_range.1 hj, ?_⟩
    have h : decide (IntKind.i64 = IntKind.i64 ∧ G j = x) = true := h
    exact (of_decide_eq_true h).2
  · rintro ⟨j, hj, h⟩
    refine ⟨j, List.mem_range.2 hj, ?_⟩
    show decide (IntKind.i64 = IntKind.i64 ∧ G j = x) = true
    exact decide_eq_true ⟨rfl, h⟩
theorem keyInt : Keyed Try.prog 3 := int_keyed Try.underlying3
theorem zeroUnit (w : World) : (zeroValue 64).run Try.prog w = .ok (.agg #[]) w := by kernel_rfl
theorem makeMapHint (n : Int) (w : World) : (Instr.makeMap 63 (some (.int .i64 n))).run Try.prog w = .ok (.map (some w.heap.size)) (w.alloc (.map #[] 0)) := by
  simp [Instr.makeMap, run_underlying Try.underlying63, asInt, asIntOf, Result.andThen]
theorem row_ne {w : World} {base : Nat} {e : TypeId} {size : Nat} {v : Value} {n : Nat} {xs : List Value} (h : w.ownsRow base e size v n xs) {b : Nat} (hb : b < base) : some b ≠ v.ownBlock := fun e1 => by
  have := (h.lt b e1.symm).1
  omega
theorem own_base {w : World} {base base' : Nat} {v : Value} {xs : List Int} (h : OwnI w base v xs) (hb : base' ≤ base) : OwnI w base' v xs := by
  obtain ⟨hl, h0 | ⟨g, cap, cur, hv, hg, hh, r⟩⟩ := h
  · exact ⟨hl, .inl h0⟩
  · exact ⟨hl, .inr ⟨g, cap, cur, hv, by omega, hh, r⟩⟩
theorem keyOfI (x : Int) (h0 : -9223372036854775808 ≤ x) (h1 : x ≤ 9223372036854775807) : keyOf Try.prog 3 (.int .i64 x) = some (.int .i64 x) := keyOf_int_mk Try.underlying3 (by
  simp only [Lit.wf, Bool.and_eq_true, decide_eq_true_eq]
  exact ⟨h0, h1⟩)
theorem own_snoc {w : World} {base : Nat} {v : Value} {xs : List Int} {f : Int} (h : w.ownsRow base 3 1 v (xs.length + 1) (intsL xs ++ [.int .i64 f])) : OwnI w base v (xs ++ [f]) := by
  have e1 : (xs ++ [f]).length = xs.length + 1 := by simp
  have e2 : intsL (xs ++ [f]) = intsL xs ++ [.int .i64 f] := by simp [intsL]
  show w.ownsRow base 3 1 v (xs ++ [f]).length (intsL (xs ++ [f]))
  rw [e1, e2]; exact h
theorem cell_two_new (w : World) (o : Obj) (x : Value) (t : TypeId) : ∀ j u, [x][j]? = some u → ((w.alloc o).alloc (.cells #[x] t)).cell? ((⟨w.heap.size + 1, 0, none⟩ : Addr).add j) = some u := by
  have h := cell_one_new (w.alloc o) x t
  rwa [World.size_alloc] at h
set_option maxRecDepth 100000 in
set_option maxHeartbeats 16000000 in
theorem follow_yes (row1 len1 : Int) (A1 : Option Addr) (n1 c1 : Nat) (F : Nat → Int) (row2 len2 : Int) (A2 : Option Addr) (n2 c2 : Nat) (G : Nat → Int) (d : Int) (w : World) (h1 : Ints w A1 n1 F) (h2 : Ints w A2 n2 G) (hy : FolP row1 len1 n1 F row2 len2 n2 G d) :
    Calls Try.prog 17 #[.agg #[.int .i64 row1, .int .i64 len1, .slice A1 n1 c1], .agg #[.int .i64 row2, .int .i64 len2, .slice A2 n2 c2], .int .i64 d] w fun e w' => ∃ v, e = .returned v ∧ OwnI w' w.heap.size v (folL F G n2 d n1) ∧ Below w.heap.size w w' ∧ (folL F G n2 d n1 = [] → v = .slice none 0 0) := by
  obtain ⟨d1, d2, hr, m1, m2⟩ := hy
  subst hr
  obtain ⟨i0, hi, hz0, hz1, hz2⟩ := info_parts intInfo
  have hmm := makeMapHint (n2 : Int)
  have hB : Below w.heap.size w ((w.alloc (.cells #[.int .i64 row1, .int .i64 len1, .slice A1 n1 c1] 48)).alloc (.cells #[.int .i64 row1, .int .i64 len2, .slice A2 n2 c2] 48)) := ((Below.refl _ _).alloc (Nat.le_refl _) _).alloc (by simp) _
  have HB := Lib.hid hB
  have I1 := h1.below hB (Nat.le_refl _)
  have I2 := h2.below hB (Nat.le_refl _)
  have HM := Lib.hid (may_is (c := c1) (decide_eq_true m1) _ I1)
  have HM2 : Hid (∀ w1, Below ((w.alloc (.cells #[.int .i64 row1, .int .i64 len1, .slice A1 n1 c1] 48)).alloc (.cells #[.int .i64 row1, .int .i64 len2, .slice A2 n2 c2] 48)).heap.size ((w.alloc (.cells #[.int .i64 row1, .int .i64 len1, .slice A1 n1 c1] 48)).alloc (.cells #[.int .i64 row1, .int .i64 len2, .slice A2 n2 c2] 48)) w1 → Calls Try.prog 27 #[.agg #[.int .i64 row1, .int .i64 len2, .slice A2 n2 c2]] w1 fun e w' => e = .returned (.bool true) ∧ Below w1.heap.size w1 w') := Lib.hid fun w1 l => may_is (c := c2) (decide_eq_true m2) w1 (I2.below l (Nat.le_refl _))
  have nn1 := may_len m1
  have nn2 := may_len m2
  have HG1 := Lib.hid m1
  have HG2 := Lib.hid m2
  have H1 := Lib.hid h1
  have H2 := Lib.hid h2
  clear I1 I2 h1 h2 hB m1 m2
  go_enter Try.func17, Try.ntmps17
  go_wp2_with (first
    | (go_at_call 27; (with_reducible refine HM.out.mono ?_); rintro e w1 ⟨rfl, l1⟩; have q0 := bcell l1 (b := w.heap.size + 1) (o := 0) (v := .int .i64 row1) (by go_simp) (by simp); have q1 := bcell l1 (b := w.heap.size + 1) (o := 1) (v := .int .i64 len2) (by go_simp) (by simp); have q2 := bcell l1 (b := w.heap.size + 1) (o := 2) (v := .slice A2 n2 c2) (by go_simp) (by simp); have q3 := bcell l1 (b := w.heap.size) (o := 2) (v := .slice A1 n1 c1) (by go_simp) (by simp; omega); have hs1 := l1.size; simp only [World.size_alloc] at hs1; have L1 := Lib.hid l1; clear l1)
    | (go_at_call 27; (with_reducible refine (HM2.out _ L1.out).mono ?_); rintro e w2 ⟨rfl, l2⟩; have p2 := bcell l2 q2 (cell_in q2); have p3 := bcell l2 q3 (cell_in q3); have hs2 := l2.size; have hs3 : w.heap.size + 1 < w2.heap.size := (by omega); have hs4 : w.heap.size < w2.heap.size := (by omega); have L2 := Lib.hid (HB.out.trans ((L1.out.mono (by simp; omega)).trans (l2.mono (by have := L1.out.size; simp at this; omega)))); clear l2))
  have K1 := Lib.hid (H1.out.below L2.out (Nat.le_refl _))
  have K2 := Lib.hid (H2.out.below L2.out (Nat.le_refl _))
  clear q0 q1 q2 q3 hs1 hs2 HM HM2 hmm L1 HB H1 H2
  go_loopw [45] (fun i wr => ∃ k : Nat, k ≤ n2 ∧ i = .int .i64 k ∧ wr.ownsMap Try.prog 3 unitElem w2.heap.size k (setG G k) ∧ Below w2.heap.size w2 wr ∧ w2.heap.size + 1 ≤ wr.heap.size) (fun i _ => n2 - (intOf i).toNat)
  case atStart => exact ⟨0, by omega, rfl, by rw [setG_zero]; exact World.ownsMap_made _ _ _ _, (Below.refl _ _).alloc (Nat.le_refl _) _, by simp⟩
  case round =>
    obtain ⟨k, hk, rfl, hown, hnx, hws⟩ := hrel
    by_cases hlt : k < n2
    · obtain ⟨b, o, hA, hbl, hc⟩ := K2.out.at_ (by omega)
      have hcx := kcell hnx hbl (hc k hlt)
      obtain ⟨g0, g1⟩ := K2.out.2.1 k hlt
      have hkey := keyOfI (G k) g0 g1
      have HSu := Lib.hid (setG_succ G k)
      subst hA
      clear hc
      generalize G k = f at *
      go_wp2_with (first
        | (at_mapUpdate; refine wpList_mapUpdate_own _ rfl _ _ _ 63 rfl 3 64 keyInt Try.underlying63 (unitElem (H := Unit)) w2.heap.size k _ rfl hown (by unfold maxLen; omega) _ _ _ rfl rfl hkey _ [] unitElem_mk ?_; intro w3 hown1 hgrow1))
      go_roundw
      case rel => exact ⟨k + 1, by omega, by go_num, by rw [HSu.out]; exact hown1, hnx.grown hgrow1 hnx.size (fun j hj => by cases hj; exact Nat.le_refl _), by have := hgrow1.size; omega⟩
      case measure => simp [intOf]; omega
    · have p4 := kcell hnx (by omega) p3
      have HNx := Lib.hid hnx
      have HOwn := Lib.hid hown
      obtain rfl : k = n2 := by omega
      clear p2 hnx hown 
      go_wp2_with fail
      obtain ⟨wo, HW⟩ : ∃ wo : World, Hid (wo = wr) := ⟨_, Lib.hid rfl⟩
      rw [← HW.out] at HNx HOwn hws p4 ⊢
      clear HW
      go_loopw [10, 56] (fun v i wr => ∃ q : Nat, q ≤ n1 ∧ i = .int .i64 q ∧ wr.ownsMap Try.prog 3 unitElem w2.heap.size k (setG G k) ∧ OwnI wr (w2.heap.size + 1) v (folL F G k d q) ∧ Below w2.heap.size w2 wr ∧ w2.heap.size + 1 ≤ wr.heap.size ∧ (folL F G k d q = [] → v = .slice none 0 0)) (fun _ i _ => n1 - (intOf i).toNat)
      case atStart => exact ⟨0, by omega, rfl, HOwn.out, World.ownsRow_nil _ _ _ _, HNx.out, hws, fun _ => rfl⟩
      case round =>
        obtain ⟨q, hq, rfl, hown, hrow, hnx, hws, hnil⟩ := hrel
        by_cases hlt : q < n1
        · obtain ⟨b, o, hA, hbl, hc⟩ := K1.out.at_ (by omega)
          have hcx := kcell hnx hbl (hc q hlt)
          have hgd := HG1.out.2.2.2.2.2 q hlt
          have hge := good_ge HG1.out.2.2.2.2.2 q hlt
          have hl1 := HG1.out.2.2.2.1
          have f0 : 0 ≤ F q := by omega
          have f1 : F q ≤ 1048576 := by omega
          have hkey := keyOfI (F q + d) (by omega) (by omega)
          have hlen := fol_len F G k q d
          have HH := Lib.hid (has_setG G k (F q + d))
          have HY : Hid (amongB G k (F q + d) = true → folL F G k d (q + 1) = folL F G k d q ++ [F q]) := Lib.hid fol_yes
          have HNo : Hid (amongB G k (F q + d) = false → folL F G k d (q + 1) = folL F G k d q) := Lib.hid fol_no
          have HNil := Lib.hid hnil
          subst hA
          clear hc hgd hge hl1 hnil
          generalize F q = f at *
          cases ht : amongB G k (f + d) with
          | false =>
            rw [ht] at HH
            have hh := HH.out
            have HE := Lib.hid (HNo.out ht)
            clear ht
            go_wp2_with (first
              | (at_lookup; refine wpList_lookup_own_unit _ rfl _ _ 63 rfl 3 64 keyInt Try.underlying63 (zeroUnit _) w2.heap.size k _ rfl hown _ _ rfl hkey ?_))
            go_roundw
            case rel => exact ⟨q + 1, by omega, by go_num, hown.alloc _, by rw [HE.out]; exact hrow.alloc _, hnx.alloc hnx.size _, by simp; omega, fun h => HNil.out (by rw [← HE.out]; exact h)⟩
            case measure => simp [intOf]; omega
          | true =>
            rw [ht] at HH
            have hh := HH.out
            have HE := Lib.hid (HY.out ht)
            clear ht
            go_wp2_with (first
              | (at_lookup; refine wpList_lookup_own_unit _ rfl _ _ 63 rfl 3 64 keyInt Try.underlying63 (zeroUnit _) w2.heap.size k _ rfl hown _ _ rfl hkey ?_)
              | (at_builtin; refine wpList_append_own _ rfl _ _ 42 rfl (w2.heap.size + 1) 3 i0 (.int .i64 0) 1 8 Try.underlying42 hi hz0 hz1 hz2 rfl (by decide) _ _ _ rfl ((hrow.alloc _).alloc _) ⟨wr.heap.size + 1, 0, none⟩ 1 1 [.int .i64 f] rfl rfl (cell_two_new _ _ _ _) (ints_oneCell .i64 [f]) (by unfold maxLen; omega) (by omega) (by simp; omega) ?_; intro v' w4 hown' hgrow2 hnil2))
            have s1 := hgrow2.size
            simp only [World.size_alloc] at s1
            go_roundw
            case rel =>
              refine ⟨q + 1, by omega, by go_num, ((hown.alloc _).alloc _).kept hgrow2 (row_ne hrow (Nat.lt_succ_self _)), ?_, ((hnx.alloc hnx.size _).alloc (by simp; omega) _).grown hgrow2 (by simp; omega) (fun j hj => Nat.le_trans (Nat.le_succ _) (hrow.lt j hj).1), by omega, fun h => absurd h (by rw [HE.out]; simp)⟩
              rw [HE.out]
              exact own_snoc hown'
            case measure => simp [intOf]; omega
        · obtain rfl : n1 = q := by omega
          go_wp2_with fail
          go_ret
          exact ⟨_, rfl, own_base hrow (by omega), L2.out.trans (hnx.mono (Nat.le_of_lt hs4)), hnil⟩
theorem follow_any (row1 len1 : Int) (A1 : Option Addr) (n1 c1 : Nat) (F : Nat → Int) (row2 len2 : Int) (A2 : Option Addr) (n2 c2 : Nat) (G : Nat → Int) (d : Int) (w : World) (h1 : Ints w A1 n1 F) (h2 : Ints w A2 n2 G) :
    Calls Try.prog 17 #[.agg #[.int .i64 row1, .int .i64 len1, .slice A1 n1 c1], .agg #[.int .i64 row2, .int .i64 len2, .slice A2 n2 c2], .int .i64 d] w fun e w' => ∃ v, e = .returned v ∧ OwnI w' w.heap.size v (followL row1 len1 n1 F row2 len2 n2 G d) ∧ Below w.heap.size w w' := by
  unfold followL
  by_cases h : FolP row1 len1 n1 F row2 len2 n2 G d
  · rw [if_pos h]
    exact (follow_yes row1 len1 A1 n1 c1 F row2 len2 A2 n2 c2 G d w h1 h2 h).mono fun e w' ⟨v, h1, h2, h3, _⟩ => ⟨v, h1, h2, h3⟩
  · rw [if_neg h]
    exact (follow_no row1 len1 A1 n1 c1 F row2 len2 A2 n2 c2 G d w h1 h2 h).mono fun e w' ⟨h1, h2⟩ => ⟨_, h1, World.ownsRow_nil _ _ _ _, h2⟩
end Go.Proofs.Ythpfaaindkkpcaa
