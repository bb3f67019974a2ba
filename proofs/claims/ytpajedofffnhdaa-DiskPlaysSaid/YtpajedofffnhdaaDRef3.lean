/- The document's Flush. -/
import Derived.Test.YtpajedofffnhdaaDRef2
import Derived.Deep.RegionHeldLaw
namespace Go.Proofs.Ytpajedofffnhdaa
open Go.RowKit
set_option linter.unusedVariables false

theorem strinfo : (Try.prog.info? 9).map (fun i => (i.zero, i.size, i.bytes)) = some (some (.string ⟨#[]⟩), 1, 16) := by kernel_rfl
/-- The document's disk in its box, while its first list is written anew. -/
structure FI (w wr : World) (S : DS) (R : RM) (g c a : Nat) (dn : Bool) (F : Nat → Nat → Nat) : Prop where
  b0 : wr.heap[w.heap.size]? = some (.cells #[.int .i64 (S.N : Int), .int .i64 (S.size : Int), .slice (some ⟨g, 0, none⟩) S.N c, .slice R.A S.loose.length R.d, .int .i64 (a : Int), .bool dn] 32 (0, 0))
  b1 : wr.heap[w.heap.size + 1]? = some (.cells #[.int .i64 0, .int .i64 0, .slice none 0 0, .slice none 0 0, .int .i64 0, .bool false] 32 (0, 0))
  hg : w.heap.size + 1 < g ∧ S.N ≤ c ∧ c ≤ 9223372036854775807
  f : ∃ cs, wr.heap[g]? = some (.cells cs 9 (0, 0)) ∧ S.N ≤ cs.size ∧ ∀ i, i < S.N → cs[i]? = some (.string (strF (F i) S.size))
  l : Below w.heap.size w wr
theorem FI.set {w wr : World} {S : DS} {R : RM} {g c a k : Nat} {dn : Bool} {F : Nat → Nat → Nat} (h : FI w wr S R g c a dn F) (G : Nat → Nat) (_hk : k < S.N) : FI w (wr.setCell ⟨g, k, none⟩ (.string (strF G S.size))) S R g c a dn (upd F k G) := by
  obtain ⟨cs, h1, h2, h3⟩ := h.f
  refine ⟨(Below.heap_setCell wr ⟨g, k, none⟩ _ _ (show w.heap.size ≠ g by have := h.hg; omega)).trans h.b0, (Below.heap_setCell wr ⟨g, k, none⟩ _ _ (show w.heap.size + 1 ≠ g by have := h.hg; omega)).trans h.b1, h.hg, ⟨_, heap_store wr g k _ cs _ h1, by simpa using h2, fun i hi => ?_⟩, h.l.setCell (p := ⟨g, k, none⟩) (by show w.heap.size ≤ g; have := h.hg; omega) _⟩
  unfold upd
  by_cases e : i = k
  · rw [if_pos e, e, Array.getElem?_setIfInBounds_self_of_lt (by omega)]
  · rw [if_neg e, Array.getElem?_setIfInBounds_ne (fun q => e q.symm)]
    exact h3 i hi
theorem FI.drew {w wr : World} {S : DS} {R : RM} {g c a : Nat} {dn : Bool} {F : Nat → Nat → Nat} (h : FI w wr S R g c a dn F) : FI w wr.drew S R g c a dn F := ⟨h.b0, h.b1, h.hg, h.f, h.l.drew⟩
theorem FI.below {w wr w' : World} {S : DS} {R : RM} {g c a : Nat} {dn : Bool} {F : Nat → Nat → Nat} (h : FI w wr S R g c a dn F) (l : Below wr.heap.size wr w') : FI w w' S R g c a dn F := by
  obtain ⟨cs, h1, h2⟩ := h.f
  exact ⟨(l.block _ (Array.getElem?_eq_some_iff.1 h.b0).1).trans h.b0, (l.block _ (Array.getElem?_eq_some_iff.1 h.b1).1).trans h.b1, h.hg, ⟨cs, (l.block _ (Array.getElem?_eq_some_iff.1 h1).1).trans h1, h2⟩, h.l.trans (l.mono h.l.size)⟩

def sCells (F : Nat → Nat → Nat) (size N : Nat) : List Value := (List.range N).map fun i => .string (strF (F i) size)
theorem sCells_get {F : Nat → Nat → Nat} {size N j : Nat} {u : Value} (h : (sCells F size N)[j]? = some u) : j < N ∧ u = .string (strF (F j) size) := by
  obtain ⟨hj, e⟩ := List.getElem?_eq_some_iff.1 h
  simp [sCells] at hj e
  exact ⟨hj, e.symm⟩
theorem sCells_one (F : Nat → Nat → Nat) (size N : Nat) : ∀ u ∈ sCells F size N, u.oneCell' = true := by
  intro u hu
  obtain ⟨k, _, rfl⟩ := List.mem_map.1 hu
  rfl

/-- What an append of all figures has made. -/
theorem strs_of_row {w : World} {base N c size : Nat} {A : Option Addr} {F : Nat → Nat → Nat} (h : w.ownsRow base 9 1 (.slice A N c) N (sCells F size N)) (hN : 1 ≤ N) :
    ∃ g, base ≤ g ∧ ∃ cs, w.heap[g]? = some (.cells cs 9 (0, 0)) ∧ A = some ⟨g, 0, none⟩ ∧ N ≤ c ∧ c ≤ 9223372036854775807 ∧ N ≤ cs.size ∧ ∀ i, i < N → cs[i]? = some (.string (strF (F i) size)) := by
  rcases h.2 with ⟨_, h0⟩ | ⟨g, cap, cur, e1, e2, e3, e4, e5, e6, e7⟩
  · omega
  · injection e1 with r1 r2 r3
    subst r1 r3
    unfold maxLen at e5
    refine ⟨g, e2, cur, e3, rfl, e4, e5, by omega, fun i hi => ?_⟩
    have q := congrArg (fun l => l[i]?) e7
    simp only [Nat.mul_one] at q
    rw [List.getElem?_take_of_lt hi] at q
    rw [← Array.getElem?_toList, q]
    unfold sCells
    rw [List.getElem?_map, List.getElem?_range hi]
    rfl
theorem refFlush_down (w : World) (S : DS) (R : RM) (h : RD w S R) (hd : S.down = true) :
    Calls Try.prog 15 #[.agg (RCells S R)] w (RPost (flushD S) (flushI S) w) := by
  have e1 : flushI S = 4 := if_pos hd
  have e2 : flushD S = S := if_pos hd
  rw [e1, e2]
  have PE := Lib.hid (show ∀ c d : Array Value, RPost S 4 w (.returned (.tuple #[.agg (RCells S R), .int .i64 4])) ((w.alloc (.cells c 32)).alloc (.cells d 32)) from fun c d => by
    have l := ((Below.refl w.heap.size w).alloc (Nat.le_refl _) (.cells c 32)).alloc (by simp) (.cells d 32)
    exact ⟨R, rfl, h.below l, l⟩)
  clear h e1 e2
  unfold RCells at PE ⊢
  rw [hd] at PE ⊢
  clear hd
  go_enter Try.func15, Try.ntmps15
  go_wp2
  exact bodyPost_ret (v := .tuple #[.agg #[.int .i64 (S.N : Int), .int .i64 (S.size : Int), .slice (some ⟨R.g, 0, none⟩) S.N R.c, .slice R.A S.loose.length R.d, .int .i64 (S.armed : Int), .bool true], .int .i64 4]) (by simp [results, Try.results15, go_sem]) rfl (PE.out _ _)

set_option maxRecDepth 100000 in
set_option maxHeartbeats 2000000 in
theorem refFlush_up (w : World) (S : DS) (R : RM) (h : RD w S R) (hd : S.down = false) :
    Calls Try.prog 15 #[.agg (RCells S R)] w (RPost (flushD S) (flushI S) w) := by
  have hN := h.hN
  have hS := h.hS
  have hL := h.hL
  have l1 := ((Below.refl w.heap.size w).alloc (Nat.le_refl _) (.cells (RCells S R) 32)).alloc (by simp) (.cells #[.int .i64 0, .int .i64 0, .slice none 0 0, .slice none 0 0, .int .i64 0, .bool false] 32)
  have L1 := Lib.hid l1
  have HA := Lib.hid h.hA
  have HD := Lib.hid hd
  have H := Lib.hid h
  clear l1 h
  have AC := Lib.hid (fun W => refAct_any S R W HA.out HD.out)
  unfold RCells at L1 AC ⊢
  rw [hd] at L1 AC ⊢
  clear hd
  go_enter Try.func15, Try.ntmps15
  go_wp2_with fail
  refine (AC.out _).mono ?_
  rintro e W2 ⟨rfl, l2⟩
  rw [strikeS_N, strikeS_size, strikeS_loose]
  have B0 : W2.heap[w.heap.size]? = some (.cells #[.int .i64 (S.N : Int), .int .i64 (S.size : Int), .slice (some ⟨R.g, 0, none⟩) S.N R.c, .slice R.A S.loose.length R.d, .int .i64 (S.armed : Int), .bool false] 32 (0, 0)) := by
    rw [l2.block w.heap.size (by simp; omega), Below.heap_alloc _ _ _ (by simp)]
    exact heap_alloc_new w _
  have B1 : W2.heap[w.heap.size + 1]? = some (.cells #[.int .i64 0, .int .i64 0, .slice none 0 0, .slice none 0 0, .int .i64 0, .bool false] 32 (0, 0)) := by
    rw [l2.block (w.heap.size + 1) (by simp)]
    have := heap_alloc_new (w.alloc (.cells #[.int .i64 (S.N : Int), .int .i64 (S.size : Int), .slice (some ⟨R.g, 0, none⟩) S.N R.c, .slice R.A S.loose.length R.d, .int .i64 (S.armed : Int), .bool false] 32)) (.cells #[.int .i64 0, .int .i64 0, .slice none 0 0, .slice none 0 0, .int .i64 0, .bool false] 32)
    rw [World.size_alloc] at this
    exact this
  have y0 : W2.cell? ⟨w.heap.size, 0, none⟩ = some (.int .i64 (S.N : Int)) := cell_of_row W2 _ 0 _ _ _ B0
  have y1 : W2.cell? ⟨w.heap.size, 1, none⟩ = some (.int .i64 (S.size : Int)) := cell_of_row W2 _ 1 _ _ _ B0
  have y2 : W2.cell? ⟨w.heap.size, 2, none⟩ = some (.slice (some ⟨R.g, 0, none⟩) S.N R.c) := cell_of_row W2 _ 2 _ _ _ B0
  have y3 : W2.cell? ⟨w.heap.size, 3, none⟩ = some (.slice R.A S.loose.length R.d) := cell_of_row W2 _ 3 _ _ _ B0
  have y4 : W2.cell? ⟨w.heap.size, 4, none⟩ = some (.int .i64 (S.armed : Int)) := cell_of_row W2 _ 4 _ _ _ B0
  have y5 : W2.cell? ⟨w.heap.size, 5, none⟩ = some (.bool false) := cell_of_row W2 _ 5 _ _ _ B0
  have fz : ∀ i, W2.frozen? ⟨w.heap.size, i, none⟩ = false := fun i => by simp [World.frozen?, B0]
  have f0 := fz 0
  have f1 := fz 1
  have f2 := fz 2
  have f3 := fz 3
  have f4 := fz 4
  have f5 := fz 5
  have L2 := Lib.hid (L1.out.trans (l2.mono (by simp; omega)))
  have HB0 := Lib.hid B0
  have HB1 := Lib.hid B1
  clear fz l2 B0 B1 AC L1
  go_upto_region 4 with (fail)
  have B3 := six_stores W2 w.heap.size _ _ _ _ _ _ _ (.int .i64 (S.N : Int)) (.int .i64 (S.size : Int)) (.slice (some ⟨R.g, 0, none⟩) S.N R.c) (.slice R.A S.loose.length R.d) (.int .i64 ((strikeS S).armed : Int)) (.bool (strikeS S).down) HB0.out
  have l3 := below_six L2.out (Nat.le_refl _) (.int .i64 (S.N : Int)) (.int .i64 (S.size : Int)) (.slice (some ⟨R.g, 0, none⟩) S.N R.c) (.slice R.A S.loose.length R.d) (.int .i64 ((strikeS S).armed : Int)) (.bool (strikeS S).down)
  have o3 : ∀ j, j ≠ w.heap.size → _ = W2.heap[j]? := fun j hj => six_other W2 w.heap.size (.int .i64 (S.N : Int)) (.int .i64 (S.size : Int)) (.slice (some ⟨R.g, 0, none⟩) S.N R.c) (.slice R.A S.loose.length R.d) (.int .i64 ((strikeS S).armed : Int)) (.bool (strikeS S).down) j hj
  generalize (((((W2.setCell ⟨w.heap.size, 0, none⟩ (.int .i64 (S.N : Int))).setCell ⟨w.heap.size, 1, none⟩ (.int .i64 (S.size : Int))).setCell ⟨w.heap.size, 2, none⟩ (.slice (some ⟨R.g, 0, none⟩) S.N R.c)).setCell ⟨w.heap.size, 3, none⟩ (.slice R.A S.loose.length R.d)).setCell ⟨w.heap.size, 4, none⟩ (.int .i64 ((strikeS S).armed : Int))).setCell ⟨w.heap.size, 5, none⟩ (.bool (strikeS S).down) = W3 at B3 l3 o3 ⊢
  have C3 := (o3 (w.heap.size + 1) (by omega)).trans HB1.out
  have er := strikeI_down S HD.out
  obtain ⟨a, ha⟩ : ∃ a, a = (strikeS S).armed := ⟨_, rfl⟩
  obtain ⟨dn, hdn⟩ : ∃ dn, dn = (strikeS S).down := ⟨_, rfl⟩
  rw [← ha, ← hdn] at B3 ⊢
  rw [← hdn] at er
  have HAD := Lib.hid (And.intro ha hdn)
  clear ha hdn o3 y0 y1 y2 y3 y4 y5 f0 f1 f2 f3 f4 f5 L2 HB0 HB1
  have z3 : w.heap.size + 1 < W3.heap.size := (Array.getElem?_eq_some_iff.1 C3).1
  have y2 : W3.cell? ⟨w.heap.size, 2, none⟩ = some (.slice (some ⟨R.g, 0, none⟩) S.N R.c) := cell_of_row W3 _ 2 _ _ _ B3
  have y5 : W3.cell? ⟨w.heap.size, 5, none⟩ = some (.bool dn) := cell_of_row W3 _ 5 _ _ _ B3
  have HB3 := Lib.hid B3
  have HC3 := Lib.hid C3
  have L3 := Lib.hid l3
  have ER := Lib.hid er
  clear B3 C3 l3 er
  rcases dn with _ | _
  · have x2 : (W3.alloc (.cells #[] 9)).cell? ⟨w.heap.size, 2, none⟩ = some (.slice (some ⟨R.g, 0, none⟩) S.N R.c) := (World.cell?_of_block (w := W3) (a := ⟨w.heap.size, 2, none⟩) (Below.heap_alloc _ _ _ (by show w.heap.size < _; omega))).trans y2
    have RD3 := Lib.hid (H.out.below L3.out)
    have RD4 := Lib.hid (RD3.out.below ((Below.refl W3.heap.size W3).alloc (Nat.le_refl _) (.cells #[] 9)))
    have HO := Lib.hid (World.ownsRow_lit (e := 9) (size := 1) W3 #[] 0 (Nat.le_refl _) (by unfold maxLen; omega) rfl)
    obtain ⟨i0, hi0, hz0, hz1, hz2⟩ := info_parts strinfo
    have HI := Lib.hid (And.intro hi0 (And.intro hz0 (And.intro hz1 hz2)))
    have SC := Lib.hid (show ∀ (j : Nat) (u : Value), (sCells S.fast S.size S.N)[j]? = some u → (W3.alloc (.cells #[] 9)).cell? ⟨R.g, j, none⟩ = some u from fun j u hu => by
      obtain ⟨hj, rfl⟩ := sCells_get hu
      exact RD4.out.fastAt j hj)
    clear hi0 hz0 hz1 hz2
    go_wp2_with (at_builtin; refine wpList_append_any _ rfl (.tmp 13) (.tmp 15) 29 rfl W3.heap.size 9 i0 (.string ⟨#[]⟩) 1 16 Try.underlying29 HI.out.1 HI.out.2.1 HI.out.2.2.1 HI.out.2.2.2 rfl (by omega) _ 0 [] rfl HO.out _ _ _ (sCells S.fast S.size S.N) rfl (by simp [sCells]) (.inr ⟨R.g, rfl, SC.out⟩) (sCells_one _ _ _) S.N (Nat.zero_add _) (sCells S.fast S.size S.N) rfl (by omega) (by omega) (by simp) ?_)
    intro A5 c5 W5 o5 g5
    have l5 : Below W3.heap.size W3 W5 := ((Below.refl W3.heap.size W3).alloc (Nat.le_refl _) (.cells #[] 9)).grown g5.out (by simp) (by rintro j ⟨⟩; exact Nat.le_refl _)
    obtain ⟨g, hg, cs, hcs, hA5, hc5, hc6, hsz, hget⟩ := strs_of_row o5.out hN.1
    subst hA5
    have B5 := (l5.block w.heap.size (by omega)).trans HB3.out
    have C5 := (l5.block (w.heap.size + 1) z3).trans HC3.out
    have y2' : W5.cell? ⟨w.heap.size, 2, none⟩ = some (.slice (some ⟨R.g, 0, none⟩) S.N R.c) := cell_of_row W5 _ 2 _ _ _ B5
    have f2' : W5.frozen? ⟨w.heap.size, 2, none⟩ = false := by simp [World.frozen?, B5]
    have I6 : FI w (W5.setCell ⟨w.heap.size, 2, none⟩ (.slice (some ⟨g, 0, none⟩) S.N c5)) S R g c5 a false S.fast :=
      ⟨heap_store W5 w.heap.size 2 _ _ _ B5, (Below.heap_setCell W5 ⟨w.heap.size, 2, none⟩ _ (w.heap.size + 1) (by show w.heap.size + 1 ≠ w.heap.size; omega)).trans C5, ⟨by omega, hc5, hc6⟩,
        ⟨cs, (Below.heap_setCell W5 ⟨w.heap.size, 2, none⟩ _ g (by show g ≠ w.heap.size; omega)).trans hcs, hsz, hget⟩, (L3.out.trans (l5.mono (by omega))).setCell (p := ⟨w.heap.size, 2, none⟩) (Nat.le_refl _) _⟩
    clear l5 o5 g5 hcs hsz hget B5 C5 SC HO RD4 RD3 x2 y2 y5 HB3 HC3 L3
    go_upto_region 7 with (fail)
    generalize W5.setCell ⟨w.heap.size, 2, none⟩ (.slice (some ⟨g, 0, none⟩) S.N c5) = W6 at I6 ⊢
    have HI6 := Lib.hid I6
    clear I6 y2' f2'
    go_wp2
    go_loopw [4] (fun i wr => ∃ k : Nat, k ≤ S.loose.length ∧ i = .int .i64 k ∧ FI w wr S R g c5 a false (fastTo S.fast (S.loose.take k))) (fun i _ => S.loose.length - (intOf i).toNat)
    case atStart => exact ⟨0, Nat.zero_le _, rfl, HI6.out⟩
    case round =>
      obtain ⟨k, hk, rfl, hi⟩ := hrel
      have HK := Lib.hid hi
      clear hi
      have x2 : wr.cell? ⟨w.heap.size, 2, none⟩ = some (.slice (some ⟨g, 0, none⟩) S.N c5) := cell_of_row wr _ 2 _ _ _ HK.out.b0
      have x3 : wr.cell? ⟨w.heap.size, 3, none⟩ = some (.slice R.A S.loose.length R.d) := cell_of_row wr _ 3 _ _ _ HK.out.b0
      by_cases hlt : k < S.loose.length
      · obtain ⟨q, x, e1, e2, e3, e4, e5, e6, e7⟩ := (H.out.below HK.out.l).looseAt k hlt
        rw [e1] at x3
        obtain ⟨cs', d1, d2, d3⟩ := HK.out.f
        have d4 : wr.cell? ⟨g, x.1, none⟩ = some (.string (strF (fastTo S.fast (S.loose.take k) x.1) S.size)) := (cell_of_row wr g _ _ _ _ d1).trans (d3 _ e5)
        have d5 : wr.frozen? ⟨g, x.1, none⟩ = false := by simp [World.frozen?, d1]
        have TK := Lib.hid (show FI w (wr.drew.setCell ⟨g, x.1, none⟩ (.string (strF x.2 S.size))) S R g c5 a false (fastTo S.fast (S.loose.take (k + 1))) by
          rw [List.take_add_one, e4]
          show FI w _ S R g c5 a false (fastTo S.fast (S.loose.take k ++ [x]))
          rw [fastTo_snoc]
          exact HK.out.drew.set x.2 e5)
        have n1 : w.heap.size ≠ g := by have := HK.out.hg; omega
        have n2 : q ≠ g := by
          rcases (H.out.below HK.out.l).l with ⟨z, _, _⟩ | ⟨q', z, _, _, cs2, z2, _⟩
          · rw [e1] at z; cases z
          · rw [e1] at z
            injection z with z
            injection z with z
            subst z
            exact type_ne z2 d1 (by decide)
        clear d1 d2 d3 e1 e4
        go_wp2
        go_region_held_law (fun W => W.cell? ⟨w.heap.size, 2, none⟩ = some (.slice (some ⟨g, 0, none⟩) S.N c5) ∧ W.cell? ⟨w.heap.size, 3, none⟩ = some (.slice (some ⟨q, 0, none⟩) S.loose.length R.d) ∧ W.cell? ⟨q, k * 2, none⟩ = some (.int .i64 (x.1 : Int)) ∧ W.cell? ⟨q, k * 2 + 1, none⟩ = some (.string (strF x.2 S.size)))
          (first | exact ⟨x2, x3, e6, e7⟩ | exact ⟨(World.cell?_of_block (w := wr) (a := ⟨w.heap.size, 2, none⟩) (Below.heap_setCell wr.drew ⟨g, x.1, none⟩ _ _ n1)).trans x2, (World.cell?_of_block (w := wr) (a := ⟨w.heap.size, 3, none⟩) (Below.heap_setCell wr.drew ⟨g, x.1, none⟩ _ _ n1)).trans x3, (World.cell?_of_block (w := wr) (a := ⟨q, k * 2, none⟩) (Below.heap_setCell wr.drew ⟨g, x.1, none⟩ _ _ n2)).trans e6, (World.cell?_of_block (w := wr) (a := ⟨q, k * 2 + 1, none⟩) (Below.heap_setCell wr.drew ⟨g, x.1, none⟩ _ _ n2)).trans e7⟩)
          (fail)
        go_wp2
        go_roundw
        case rel => exact ⟨k + 1, by omega, by go_num, TK.out⟩
        case measure => simp [intOf]; omega
      · obtain rfl : k = S.loose.length := by omega
        have HKK := HK.out
        rw [List.take_length] at HKK
        have B6 := HKK.b0
        have f3 : wr.frozen? ⟨w.heap.size, 3, none⟩ = false := by simp [World.frozen?, B6]
        have HK2 := Lib.hid HKK
        clear HKK B6 HK x2 HI6
        go_upto_region 12 with (fail)
        have B7 : (wr.setCell ⟨w.heap.size, 3, none⟩ (.slice none 0 0)).heap[w.heap.size]? = some (.cells #[.int .i64 (S.N : Int), .int .i64 (S.size : Int), .slice (some ⟨g, 0, none⟩) S.N c5, .slice none 0 0, .int .i64 (a : Int), .bool false] 32 (0, 0)) := heap_store wr w.heap.size 3 _ _ _ HK2.out.b0
        have C7 := (Below.heap_setCell wr ⟨w.heap.size, 3, none⟩ (.slice none 0 0) (w.heap.size + 1) (by show w.heap.size + 1 ≠ w.heap.size; omega)).trans HK2.out.b1
        have l7 : Below w.heap.size w (wr.setCell ⟨w.heap.size, 3, none⟩ (.slice none 0 0)) := HK2.out.l.setCell (p := ⟨w.heap.size, 3, none⟩) (Nat.le_refl _) _
        have rd : RD (wr.setCell ⟨w.heap.size, 3, none⟩ (.slice none 0 0)) (flushS S) { g := g, c := c5, A := none, d := 0 } := by
          obtain ⟨cs', d1, d2, d3⟩ := HK2.out.f
          have hg := HK2.out.hg
          refine ⟨⟨by rw [show (flushS S).N = S.N from strikeS_N S]; exact hg.2.1, hg.2.2, cs', (Below.heap_setCell wr ⟨w.heap.size, 3, none⟩ _ g (by show g ≠ w.heap.size; omega)).trans d1, fun i hi => ?_⟩, .inl ⟨rfl, rfl, rfl⟩, ?_, ?_, ?_, by show (0 : Nat) ≤ _; omega⟩
          · show cs'[i]? = some (.string (strF (fastTo S.fast S.loose i) (strikeS S).size))
            rw [strikeS_size]
            exact d3 i (by rw [← strikeS_N S]; exact hi)
          · show 1 ≤ (strikeS S).N ∧ (strikeS S).N ≤ _; rw [strikeS_N]; exact hN
          · show 64 ≤ (strikeS S).size ∧ (strikeS S).size ≤ _; rw [strikeS_size]; exact hS
          · exact H.out.strike.hA
        generalize wr.setCell ⟨w.heap.size, 3, none⟩ (.slice none 0 0) = W7 at B7 C7 l7 rd ⊢
        have y0 : W7.cell? ⟨w.heap.size, 0, none⟩ = some (.int .i64 (S.N : Int)) := cell_of_row W7 _ 0 _ _ _ B7
        have y1 : W7.cell? ⟨w.heap.size, 1, none⟩ = some (.int .i64 (S.size : Int)) := cell_of_row W7 _ 1 _ _ _ B7
        have y2 : W7.cell? ⟨w.heap.size, 2, none⟩ = some (.slice (some ⟨g, 0, none⟩) S.N c5) := cell_of_row W7 _ 2 _ _ _ B7
        have y3 : W7.cell? ⟨w.heap.size, 3, none⟩ = some (.slice none 0 0) := cell_of_row W7 _ 3 _ _ _ B7
        have y4 : W7.cell? ⟨w.heap.size, 4, none⟩ = some (.int .i64 (a : Int)) := cell_of_row W7 _ 4 _ _ _ B7
        have y5 : W7.cell? ⟨w.heap.size, 5, none⟩ = some (.bool false) := cell_of_row W7 _ 5 _ _ _ B7
        have u0 : W7.cell? ⟨w.heap.size + 1, 0, none⟩ = some (.int .i64 0) := cell_of_row W7 _ 0 _ _ _ C7
        have u1 : W7.cell? ⟨w.heap.size + 1, 1, none⟩ = some (.int .i64 0) := cell_of_row W7 _ 1 _ _ _ C7
        have u2 : W7.cell? ⟨w.heap.size + 1, 2, none⟩ = some (.slice none 0 0) := cell_of_row W7 _ 2 _ _ _ C7
        have u3 : W7.cell? ⟨w.heap.size + 1, 3, none⟩ = some (.slice none 0 0) := cell_of_row W7 _ 3 _ _ _ C7
        have u4 : W7.cell? ⟨w.heap.size + 1, 4, none⟩ = some (.int .i64 0) := cell_of_row W7 _ 4 _ _ _ C7
        have u5 : W7.cell? ⟨w.heap.size + 1, 5, none⟩ = some (.bool false) := cell_of_row W7 _ 5 _ _ _ C7
        have fz : ∀ i, W7.frozen? ⟨w.heap.size + 1, i, none⟩ = false := fun i => by simp [World.frozen?, C7]
        have f0 := fz 0
        have f1 := fz 1
        have f2 := fz 2
        have f3 := fz 3
        have f4 := fz 4
        have f5 := fz 5
        have e4 : strikeI S = 0 := ER.out.trans (if_neg (by simp))
        have e1 : flushI S = 0 := by unfold flushI; rw [if_neg (by rw [HD.out]; simp), e4]
        have e2 : flushD S = flushS S := by unfold flushD; rw [if_neg (by rw [HD.out]; simp), if_neg (by omega)]
        have PF := Lib.hid (show RPost (flushD S) (flushI S) w (.returned (.tuple #[.agg #[.int .i64 (S.N : Int), .int .i64 (S.size : Int), .slice (some ⟨g, 0, none⟩) S.N c5, .slice none 0 0, .int .i64 (a : Int), .bool false], .int .i64 0])) (six W7 (w.heap.size + 1) (.int .i64 (S.N : Int)) (.int .i64 (S.size : Int)) (.slice (some ⟨g, 0, none⟩) S.N c5) (.slice none 0 0) (.int .i64 (a : Int)) (.bool false)) by
          rw [e1, e2]
          refine ⟨{ g := g, c := c5, A := none, d := 0 }, ?_, rd.six C7 _ _ _ _ _ _, below_six l7 (by omega) _ _ _ _ _ _⟩
          unfold RCells
          rw [show (flushS S).N = S.N from strikeS_N S, show (flushS S).size = S.size from strikeS_size S, show (flushS S).armed = a from HAD.out.1.symm, show (flushS S).down = false from HAD.out.2.symm]
          rfl)
        clear fz rd B7 C7 l7 e4 e1 e2 HK2 ER HAD H HA HD
        go_wp2
        exact bodyPost_ret (v := .tuple #[.agg #[.int .i64 (S.N : Int), .int .i64 (S.size : Int), .slice (some ⟨g, 0, none⟩) S.N c5, .slice none 0 0, .int .i64 (a : Int), .bool false], .int .i64 0]) (by simp [results, Try.results15, go_sem, u0, u1, u2, u3, u4, u5]) rfl PF.out
  · have y0 : W3.cell? ⟨w.heap.size, 0, none⟩ = some (.int .i64 (S.N : Int)) := cell_of_row W3 _ 0 _ _ _ HB3.out
    have y1 : W3.cell? ⟨w.heap.size, 1, none⟩ = some (.int .i64 (S.size : Int)) := cell_of_row W3 _ 1 _ _ _ HB3.out
    have y3 : W3.cell? ⟨w.heap.size, 3, none⟩ = some (.slice R.A S.loose.length R.d) := cell_of_row W3 _ 3 _ _ _ HB3.out
    have y4 : W3.cell? ⟨w.heap.size, 4, none⟩ = some (.int .i64 (a : Int)) := cell_of_row W3 _ 4 _ _ _ HB3.out
    have u0 : W3.cell? ⟨w.heap.size + 1, 0, none⟩ = some (.int .i64 0) := cell_of_row W3 _ 0 _ _ _ HC3.out
    have u1 : W3.cell? ⟨w.heap.size + 1, 1, none⟩ = some (.int .i64 0) := cell_of_row W3 _ 1 _ _ _ HC3.out
    have u2 : W3.cell? ⟨w.heap.size + 1, 2, none⟩ = some (.slice none 0 0) := cell_of_row W3 _ 2 _ _ _ HC3.out
    have u3 : W3.cell? ⟨w.heap.size + 1, 3, none⟩ = some (.slice none 0 0) := cell_of_row W3 _ 3 _ _ _ HC3.out
    have u4 : W3.cell? ⟨w.heap.size + 1, 4, none⟩ = some (.int .i64 0) := cell_of_row W3 _ 4 _ _ _ HC3.out
    have u5 : W3.cell? ⟨w.heap.size + 1, 5, none⟩ = some (.bool false) := cell_of_row W3 _ 5 _ _ _ HC3.out
    have fz : ∀ i, W3.frozen? ⟨w.heap.size + 1, i, none⟩ = false := fun i => by simp [World.frozen?, HC3.out]
    have f0 := fz 0
    have f1 := fz 1
    have f2 := fz 2
    have f3 := fz 3
    have f4 := fz 4
    have f5 := fz 5
    have e4 : strikeI S = 4 := ER.out.trans (if_pos rfl)
    have e1 : flushI S = 4 := by unfold flushI; rw [if_neg (by rw [HD.out]; simp), e4]
    have e2 : flushD S = strikeS S := by unfold flushD; rw [if_neg (by rw [HD.out]; simp), if_pos e4]
    have PF := Lib.hid (show RPost (flushD S) (flushI S) w (.returned (.tuple #[.agg #[.int .i64 (S.N : Int), .int .i64 (S.size : Int), .slice (some ⟨R.g, 0, none⟩) S.N R.c, .slice R.A S.loose.length R.d, .int .i64 (a : Int), .bool true], .int .i64 4])) (six W3 (w.heap.size + 1) (.int .i64 (S.N : Int)) (.int .i64 (S.size : Int)) (.slice (some ⟨R.g, 0, none⟩) S.N R.c) (.slice R.A S.loose.length R.d) (.int .i64 (a : Int)) (.bool true)) by
      rw [e1, e2]
      refine ⟨R, ?_, ((H.out.below L3.out).strike).six HC3.out _ _ _ _ _ _, below_six L3.out (by omega) _ _ _ _ _ _⟩
      unfold RCells
      rw [strikeS_N, strikeS_size, strikeS_loose, ← HAD.out.1, ← HAD.out.2])
    clear fz e4 e1 e2 HB3 HC3 L3 ER HAD H HA HD
    go_wp2
    exact bodyPost_ret (v := .tuple #[.agg #[.int .i64 (S.N : Int), .int .i64 (S.size : Int), .slice (some ⟨R.g, 0, none⟩) S.N R.c, .slice R.A S.loose.length R.d, .int .i64 (a : Int), .bool true], .int .i64 4]) (by simp [results, Try.results15, go_sem, u0, u1, u2, u3, u4, u5]) rfl PF.out
theorem refFlush_any (w : World) (S : DS) (R : RM) (h : RD w S R) : Calls Try.prog 15 #[.agg (RCells S R)] w (RPost (flushD S) (flushI S) w) := by
  by_cases hd : S.down = true
  · exact refFlush_down w S R h hd
  · exact refFlush_up w S R h (by simpa using hd)
theorem refPut_any (at_ : Int) (n : Nat) (F : Nat → Nat) (w : World) (S : DS) (R : RM) (h : RD w S R) (hn : n ≤ 1000000) (hL : S.loose.length < 1000000) :
    Calls Try.prog 23 #[.agg (RCells S R), .int .i64 at_, .string (strF F n)] w (RPost (putS S at_ n F) (putI S at_ n F) w) := by
  by_cases hr : reachI S at_ ≠ 0 ∨ n ≠ S.size
  · exact refPut_no at_ n F w S R h hr hn
  · have h0 : reachI S at_ = 0 := by
      by_cases e : reachI S at_ = 0
      · exact e
      · exact absurd (.inl e) hr
    have hne : n = S.size := by
      by_cases e : n = S.size
      · exact e
      · exact absurd (.inr e) hr
    subst hne
    obtain ⟨h1, h2, h3⟩ := reach_in h0
    obtain ⟨k, rfl⟩ := Int.eq_ofNat_of_zero_le h2
    have e1 : putI S (k : Int) S.size F = strikeI (keepS S k F) := by unfold putI; rw [if_neg (fun q => q h0), if_neg (fun q => q rfl)]; rfl
    have e2 : putS S (k : Int) S.size F = strikeS (keepS S k F) := by unfold putS; rw [if_neg hr]; rfl
    rw [e1, e2]
    exact refPut_ok k F w S R h (by omega) h1 hL
end Go.Proofs.Ytpajedofffnhdaa
