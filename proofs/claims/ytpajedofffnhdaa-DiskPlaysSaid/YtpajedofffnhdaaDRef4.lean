/- The document's Crash. -/
import Derived.Test.YtpajedofffnhdaaDRef3
import Derived.BigRegion
namespace Go.Proofs.Ytpajedofffnhdaa
open Go.RowKit
set_option linter.unusedVariables false

/-- How many bytes of the k-th loose write are done. -/
def doneN (S : DS) (fa : Nat → Int) (L k : Nat) : Nat := if k + 1 = S.loose.length then choiceN fa L k (S.size + 1) else S.size * choiceN fa L k 2
theorem choiceN_min (fa : Nat → Int) (L k n : Nat) : choiceN fa L (min k L) n = choiceN fa L k n := by
  unfold choiceN
  by_cases h : k < L
  · rw [Nat.min_eq_left (by omega)]
  · rw [if_neg (by omega), if_neg h]
theorem crashTo_next (S : DS) (fa : Nat → Int) (L : Nat) : ∀ k, k ≤ S.loose.length → (crashTo S fa L k).2 = min k L
  | 0, _ => by simp [crashTo]
  | k + 1, h => by
    have ih := crashTo_next S fa L k (by omega)
    have hx : S.loose[k]? = some (S.loose[k]'(by omega)) := List.getElem?_eq_getElem (by omega)
    simp only [crashTo, hx]
    have q : nextN L (crashTo S fa L k).2 = min (k + 1) L := by
      rw [ih]
      unfold nextN
      split <;> omega
    split
    · exact q
    · split
      · exact q
      · exact q
theorem copyF_none (F G : Nat → Nat) : copyF F 0 0 G = F := by
  funext i
  unfold copyF
  rw [if_neg (by omega)]
theorem upd_same (f : Nat → Nat → Nat) (k : Nat) : upd f k (f k) = f := by
  funext j
  unfold upd
  by_cases e : j = k
  · rw [if_pos e, e]
  · rw [if_neg e]
theorem crashTo_step (S : DS) (fa : Nat → Int) (L k : Nat) (x : Nat × (Nat → Nat)) (hx : S.loose[k]? = some x) :
    (crashTo S fa L (k + 1)).1 = upd (crashTo S fa L k).1 x.1 (copyF ((crashTo S fa L k).1 x.1) 0 (doneN S fa L k) x.2) := by
  have hk : k < S.loose.length := (List.getElem?_eq_some_iff.1 hx).1
  have e2 := crashTo_next S fa L k (by omega)
  simp only [crashTo, hx]
  unfold doneN
  rw [e2]
  simp only [choiceN_min]
  by_cases hl : k + 1 = S.loose.length
  · rw [if_pos hl, if_pos hl]
  · rw [if_neg hl, if_neg hl]
    have c2 := choiceN_lt fa L k 2 (by omega)
    by_cases h1 : choiceN fa L k 2 = 1
    · rw [if_pos h1, h1, Nat.mul_one]
    · have h0 : choiceN fa L k 2 = 0 := by omega
      rw [if_neg h1, h0, Nat.mul_zero, copyF_none, upd_same]
theorem doneN_le (S : DS) (fa : Nat → Int) (L k : Nat) : doneN S fa L k ≤ S.size := by
  unfold doneN
  split
  · have := choiceN_lt fa L k (S.size + 1) (by omega); omega
  · have := choiceN_lt fa L k 2 (by omega)
    have h : choiceN fa L k 2 = 0 ∨ choiceN fa L k 2 = 1 := by omega
    rcases h with h | h <;> rw [h] <;> omega

theorem three_stores (w : World) (b : Nat) (t : TypeId) (c0 c1 c2 c3 c4 c5 v3 v4 v5 : Value) (h : w.heap[b]? = some (.cells #[c0, c1, c2, c3, c4, c5] t (0, 0))) :
    (((w.setCell ⟨b, 3, none⟩ v3).setCell ⟨b, 4, none⟩ v4).setCell ⟨b, 5, none⟩ v5).heap[b]? = some (.cells #[c0, c1, c2, v3, v4, v5] t (0, 0)) := by
  have h4 : (w.setCell ⟨b, 3, none⟩ v3).heap[b]? = some (.cells #[c0, c1, c2, v3, c4, c5] t (0, 0)) := heap_store w b 3 v3 _ t h
  have h5 : ((w.setCell ⟨b, 3, none⟩ v3).setCell ⟨b, 4, none⟩ v4).heap[b]? = some (.cells #[c0, c1, c2, v3, v4, c5] t (0, 0)) := heap_store _ b 4 v4 _ t h4
  exact heap_store _ b 5 v5 _ t h5
def RCrash (S' : DS) (w : World) (e : Ending) (w' : World) : Prop := ∃ R', e = .returned (.agg (RCells S' R')) ∧ RD w' S' R' ∧ Below w.heap.size w w'

set_option maxRecDepth 100000 in
set_option maxHeartbeats 2000000 in
theorem refCrash_any (fA : Option Addr) (L fC : Nat) (fa : Nat → Int) (w : World) (S : DS) (R : RM) (h : RD w S R) (hI : Ints w fA L fa) :
    Calls Try.prog 20 #[.agg (RCells S R), .slice fA L fC] w (RCrash (crashS S fa L) w) := by
  have hN := h.hN
  have hS := h.hS
  have hL := h.hL
  have l1 := ((Below.refl w.heap.size w).alloc (Nat.le_refl _) (.cells (RCells S R) 32)).alloc (by simp) (.cells #[.int .i64 0, .int .i64 0, .slice none 0 0, .slice none 0 0, .int .i64 0, .bool false] 32)
  have HI := Lib.hid hI
  have H := Lib.hid h
  have L1 := Lib.hid l1
  clear l1 h hI
  unfold RCells at L1 ⊢
  go_enter Try.func20, Try.ntmps20
  go_upto_region 1 with (fail)
  obtain ⟨W3, hW3⟩ : ∃ W3, W3 = (w.alloc (.cells #[.int .i64 (S.N : Int), .int .i64 (S.size : Int), .slice (some ⟨R.g, 0, none⟩) S.N R.c, .slice R.A S.loose.length R.d, .int .i64 (S.armed : Int), .bool S.down] 32)).alloc (.cells #[.int .i64 0, .int .i64 0, .slice none 0 0, .slice none 0 0, .int .i64 0, .bool false] 32) := ⟨_, rfl⟩
  rw [← hW3] at L1 ⊢
  have B3 : W3.heap[w.heap.size]? = some (.cells #[.int .i64 (S.N : Int), .int .i64 (S.size : Int), .slice (some ⟨R.g, 0, none⟩) S.N R.c, .slice R.A S.loose.length R.d, .int .i64 (S.armed : Int), .bool S.down] 32 (0, 0)) := by
    rw [hW3, Below.heap_alloc _ _ _ (by simp)]
    exact heap_alloc_new w _
  have C3 : W3.heap[w.heap.size + 1]? = some (.cells #[.int .i64 0, .int .i64 0, .slice none 0 0, .slice none 0 0, .int .i64 0, .bool false] 32 (0, 0)) := by
    have := heap_alloc_new (w.alloc (.cells #[.int .i64 (S.N : Int), .int .i64 (S.size : Int), .slice (some ⟨R.g, 0, none⟩) S.N R.c, .slice R.A S.loose.length R.d, .int .i64 (S.armed : Int), .bool S.down] 32)) (.cells #[.int .i64 0, .int .i64 0, .slice none 0 0, .slice none 0 0, .int .i64 0, .bool false] 32)
    rw [World.size_alloc] at this
    rw [hW3]
    exact this
  obtain ⟨a, ha⟩ : ∃ a, a = S.armed := ⟨_, rfl⟩
  obtain ⟨dn, hdn⟩ : ∃ dn, dn = S.down := ⟨_, rfl⟩
  rw [← ha, ← hdn] at B3 ⊢
  clear hW3 ha hdn
  have z3 : w.heap.size + 1 < W3.heap.size := (Array.getElem?_eq_some_iff.1 C3).1
  have x2 : (W3.alloc (.cells #[] 9)).cell? ⟨w.heap.size, 2, none⟩ = some (.slice (some ⟨R.g, 0, none⟩) S.N R.c) := (World.cell?_of_block (w := W3) (a := ⟨w.heap.size, 2, none⟩) (Below.heap_alloc _ _ _ (by show w.heap.size < _; omega))).trans (cell_of_row W3 _ 2 _ _ _ B3)
  have HB3 := Lib.hid B3
  have HC3 := Lib.hid C3
  have RD3 := Lib.hid (H.out.below L1.out)
  have RD4 := Lib.hid (RD3.out.below ((Below.refl W3.heap.size W3).alloc (Nat.le_refl _) (.cells #[] 9)))
  have HO := Lib.hid (World.ownsRow_lit (e := 9) (size := 1) W3 #[] 0 (Nat.le_refl _) (by unfold maxLen; omega) rfl)
  obtain ⟨i0, hi0, hz0, hz1, hz2⟩ := info_parts strinfo
  have HJ := Lib.hid (And.intro hi0 (And.intro hz0 (And.intro hz1 hz2)))
  have SC := Lib.hid (show ∀ (j : Nat) (u : Value), (sCells S.fast S.size S.N)[j]? = some u → (W3.alloc (.cells #[] 9)).cell? ⟨R.g, j, none⟩ = some u from fun j u hu => by
    obtain ⟨hj, rfl⟩ := sCells_get hu
    exact RD4.out.fastAt j hj)
  clear hi0 hz0 hz1 hz2 B3 C3
  go_wp2_with (at_builtin; refine wpList_append_any _ rfl (.tmp 8) (.tmp 10) 29 rfl W3.heap.size 9 i0 (.string ⟨#[]⟩) 1 16 Try.underlying29 HJ.out.1 HJ.out.2.1 HJ.out.2.2.1 HJ.out.2.2.2 rfl (by omega) _ 0 [] rfl HO.out _ _ _ (sCells S.fast S.size S.N) rfl (by simp [sCells]) (.inr ⟨R.g, rfl, SC.out⟩) (sCells_one _ _ _) S.N (Nat.zero_add _) (sCells S.fast S.size S.N) rfl (by omega) (by omega) (by simp) ?_)
  intro A5 c5 W5 o5 g5
  have l5 : Below W3.heap.size W3 W5 := ((Below.refl W3.heap.size W3).alloc (Nat.le_refl _) (.cells #[] 9)).grown g5.out (by simp) (by rintro j ⟨⟩; exact Nat.le_refl _)
  obtain ⟨g, hg, cs, hcs, hA5, hc5, hc6, hsz, hget⟩ := strs_of_row o5.out hN.1
  subst hA5
  have B5 := (l5.block w.heap.size (by omega)).trans HB3.out
  have C5 := (l5.block (w.heap.size + 1) z3).trans HC3.out
  have y2' : W5.cell? ⟨w.heap.size, 2, none⟩ = some (.slice (some ⟨R.g, 0, none⟩) S.N R.c) := cell_of_row W5 _ 2 _ _ _ B5
  have f2' : W5.frozen? ⟨w.heap.size, 2, none⟩ = false := by simp [World.frozen?, B5]
  have I6 : FI w (W5.setCell ⟨w.heap.size, 2, none⟩ (.slice (some ⟨g, 0, none⟩) S.N c5)) S R g c5 a dn S.fast :=
    ⟨heap_store W5 w.heap.size 2 _ _ _ B5, (Below.heap_setCell W5 ⟨w.heap.size, 2, none⟩ _ (w.heap.size + 1) (by show w.heap.size + 1 ≠ w.heap.size; omega)).trans C5, ⟨by omega, hc5, hc6⟩,
      ⟨cs, (Below.heap_setCell W5 ⟨w.heap.size, 2, none⟩ _ g (by show g ≠ w.heap.size; omega)).trans hcs, hsz, hget⟩, (L1.out.trans (l5.mono (by omega))).setCell (p := ⟨w.heap.size, 2, none⟩) (Nat.le_refl _) _⟩
  clear l5 o5 g5 hcs hsz hget B5 C5 SC HO RD4 RD3 x2 HB3 HC3 L1
  go_upto_region 2 with (fail)
  generalize W5.setCell ⟨w.heap.size, 2, none⟩ (.slice (some ⟨g, 0, none⟩) S.N c5) = W6 at I6 ⊢
  have HI6 := Lib.hid I6
  clear I6 y2' f2'
  go_wp2
  go_loopw [5] (fun i wr => ∃ k : Nat, k ≤ S.loose.length ∧ i = .int .i64 k ∧ FI w wr S R g c5 a dn (crashTo S fa L k).1) (fun i _ => S.loose.length - (intOf i).toNat)
  case atStart => exact ⟨0, Nat.zero_le _, rfl, HI6.out⟩
  case round =>
    obtain ⟨k, hk, rfl, hi⟩ := hrel
    have HK := Lib.hid hi
    clear hi
    have x1 : wr.cell? ⟨w.heap.size, 1, none⟩ = some (.int .i64 (S.size : Int)) := cell_of_row wr _ 1 _ _ _ HK.out.b0
    have x2 : wr.cell? ⟨w.heap.size, 2, none⟩ = some (.slice (some ⟨g, 0, none⟩) S.N c5) := cell_of_row wr _ 2 _ _ _ HK.out.b0
    have x3 : wr.cell? ⟨w.heap.size, 3, none⟩ = some (.slice R.A S.loose.length R.d) := cell_of_row wr _ 3 _ _ _ HK.out.b0
    by_cases hlt : k < S.loose.length
    · obtain ⟨q, x, e1, e2, e3, e4, e5, e6, e7⟩ := (H.out.below HK.out.l).looseAt k hlt
      rw [e1] at x3
      have ltb : w.heap.size < wr.heap.size := (Array.getElem?_eq_some_iff.1 HK.out.b0).1
      have E4 := Lib.hid e4
      clear e4
      have E1 := Lib.hid e1
      clear e1
      go_upto_region 6 with (fail)
      obtain ⟨Wb, hWb⟩ : ∃ Wb, Wb = wr.alloc (.cells #[.int .i64 (x.1 : Int), .string (strF x.2 S.size)] 71) := ⟨_, rfl⟩
      rw [← hWb]
      have lb : Below wr.heap.size wr Wb := by rw [hWb]; exact (Below.refl _ _).alloc (Nat.le_refl _) _
      have w0 : Wb.cell? ⟨wr.heap.size, 0, none⟩ = some (.int .i64 (x.1 : Int)) := by rw [hWb]; simp
      have w1 : Wb.cell? ⟨wr.heap.size, 1, none⟩ = some (.string (strF x.2 S.size)) := by rw [hWb]; simp
      have IB := Lib.hid (HK.out.below lb)
      have II := Lib.hid (HI.out.below (HK.out.l.trans (lb.mono HK.out.l.size)) (Nat.le_refl _))
      have x1 : Wb.cell? ⟨w.heap.size, 1, none⟩ = some (.int .i64 (S.size : Int)) := cell_of_row Wb _ 1 _ _ _ IB.out.b0
      have x2 : Wb.cell? ⟨w.heap.size, 2, none⟩ = some (.slice (some ⟨g, 0, none⟩) S.N c5) := cell_of_row Wb _ 2 _ _ _ IB.out.b0
      have x3 : Wb.cell? ⟨w.heap.size, 3, none⟩ = some (.slice (some ⟨q, 0, none⟩) S.loose.length R.d) := by rw [← E1.out]; exact cell_of_row Wb _ 3 _ _ _ IB.out.b0
      clear hWb lb e6 e7
      have c2 := choiceN_lt fa L k 2 (by omega)
      have hk6 : k ≤ 1000000 := by omega
      have hmul : IntKind.i64.wrap ((S.size : Int) * ((choiceN fa L k 2 : Nat) : Int)) = ((S.size * choiceN fa L k 2 : Nat) : Int) := by
        have h : choiceN fa L k 2 = 0 ∨ choiceN fa L k 2 = 1 := by omega
        rcases h with h | h
        · rw [h]; simp; rfl
        · rw [h, Nat.mul_one]
          show IntKind.i64.wrap ((S.size : Int) * 1) = _
          rw [Int.mul_one]
          exact IntWalk.i64_in _ (by omega)
      go_region_held_law (fun W => W.cell? ⟨w.heap.size, 1, none⟩ = some (.int .i64 (S.size : Int)))
        (first | exact x1 | go_keep)
        (first | (go_at_call 35; refine (refChoice_any fA L fC k 2 fa _ (II.out.below ((Below.refl _ _).drew) (Nat.le_refl _)) hk6 (by omega) (by omega)).mono ?_; rintro e W9 ⟨rfl, rfl⟩))
      have DN := Lib.hid (doneN_le S fa L k)
      by_cases hlast : k + 1 = S.loose.length
      · have qk : ((k : Int) == (S.loose.length : Int) - 1) = true := by rw [beq_iff_eq]; omega
        have DE := Lib.hid (show doneN S fa L k = choiceN fa L k (S.size + 1) from if_pos hlast)
        have hs1 : IntKind.i64.wrap ((S.size : Int) + 1) = (S.size : Int) + 1 := IntWalk.i64_in _ (by omega)
        clear hlast
        go_wp2_with fail
        rw [show (S.size : Int) + 1 = ((S.size + 1 : Nat) : Int) by omega]
        refine (refChoice_any fA L fC k (S.size + 1) fa _ (II.out.below ((Below.refl _ _).drew) (Nat.le_refl _)) hk6 (by omega) (by omega)).mono ?_
        rintro e W9 ⟨rfl, rfl⟩
        rw [← DE.out]
        obtain ⟨m, hm⟩ : ∃ m, m = doneN S fa L k := ⟨_, rfl⟩
        rw [← hm]
        have hm2 : m ≤ S.size := by have := DN.out; omega
        have HM := Lib.hid hm
        clear hs1 qk c2 hmul hm DE DN
        go_upto_region 9 with (fail)
        obtain ⟨Wd, hWd⟩ : ∃ Wd, Wd = Wb.drew := ⟨_, rfl⟩
        rw [← hWd]
        have v0 : Wd.cell? ⟨wr.heap.size, 0, none⟩ = some (.int .i64 (x.1 : Int)) := by rw [hWd]; exact w0
        have v1 : Wd.cell? ⟨wr.heap.size, 1, none⟩ = some (.string (strF x.2 S.size)) := by rw [hWd]; exact w1
        have v2 : Wd.cell? ⟨w.heap.size, 2, none⟩ = some (.slice (some ⟨g, 0, none⟩) S.N c5) := by rw [hWd]; exact x2
        have ID := Lib.hid (show FI w Wd S R g c5 a dn (crashTo S fa L k).1 by rw [hWd]; exact IB.out.drew)
        obtain ⟨cs', d1, d2, d3⟩ := ID.out.f
        have v3 : Wd.cell? ⟨g, x.1, none⟩ = some (.string (strF ((crashTo S fa L k).1 x.1) S.size)) := (cell_of_row Wd g _ _ _ _ d1).trans (d3 _ e5)
        have v4 : Wd.frozen? ⟨g, x.1, none⟩ = false := by simp [World.frozen?, d1]
        have s1 := strF_size x.2 S.size
        have s2 := strF_size ((crashTo S fa L k).1 x.1) S.size
        clear hWd d1 d2 d3 w0 w1 x1 x2 x3
        go_region
        rw [strF_splice _ _ m S.size hm2]
        have TK := Lib.hid (show FI w ((Wd.setCell ⟨g, x.1, none⟩ (.string (strF (copyF ((crashTo S fa L k).1 x.1) 0 m x.2) S.size))).drew) S R g c5 a dn (crashTo S fa L (k + 1)).1 by
          rw [crashTo_step S fa L k x E4.out, ← HM.out]
          exact (ID.out.set _ e5).drew)
        clear v0 v1 v2 v3 v4
        go_wp2
        go_roundw
        case rel => exact ⟨k + 1, by omega, by go_num, TK.out⟩
        case measure => simp [intOf]; omega
      · have qk : ((k : Int) == (S.loose.length : Int) - 1) = false := by rw [beq_eq_false_iff_ne]; omega
        have DE := Lib.hid (show doneN S fa L k = S.size * choiceN fa L k 2 from if_neg hlast)
        clear hlast
        rw [show (S.size : Int) * ((choiceN fa L k 2 : Nat) : Int) = ((doneN S fa L k : Nat) : Int) by rw [DE.out]; simp]
        obtain ⟨m, hm⟩ : ∃ m, m = doneN S fa L k := ⟨_, rfl⟩
        rw [← hm]
        have qk2 := qk
        have hm2 : m ≤ S.size := by have := DN.out; omega
        have HM := Lib.hid hm
        clear c2 hmul hm DE DN
        go_upto_region 9 with (fail)
        obtain ⟨Wd, hWd⟩ : ∃ Wd, Wd = Wb.drew := ⟨_, rfl⟩
        rw [← hWd]
        have v0 : Wd.cell? ⟨wr.heap.size, 0, none⟩ = some (.int .i64 (x.1 : Int)) := by rw [hWd]; exact w0
        have v1 : Wd.cell? ⟨wr.heap.size, 1, none⟩ = some (.string (strF x.2 S.size)) := by rw [hWd]; exact w1
        have v2 : Wd.cell? ⟨w.heap.size, 2, none⟩ = some (.slice (some ⟨g, 0, none⟩) S.N c5) := by rw [hWd]; exact x2
        have ID := Lib.hid (show FI w Wd S R g c5 a dn (crashTo S fa L k).1 by rw [hWd]; exact IB.out.drew)
        obtain ⟨cs', d1, d2, d3⟩ := ID.out.f
        have v3 : Wd.cell? ⟨g, x.1, none⟩ = some (.string (strF ((crashTo S fa L k).1 x.1) S.size)) := (cell_of_row Wd g _ _ _ _ d1).trans (d3 _ e5)
        have v4 : Wd.frozen? ⟨g, x.1, none⟩ = false := by simp [World.frozen?, d1]
        have s1 := strF_size x.2 S.size
        have s2 := strF_size ((crashTo S fa L k).1 x.1) S.size
        clear hWd d1 d2 d3 w0 w1 x1 x2 x3
        go_region
        rw [strF_splice _ _ m S.size hm2]
        have TK := Lib.hid (show FI w ((Wd.setCell ⟨g, x.1, none⟩ (.string (strF (copyF ((crashTo S fa L k).1 x.1) 0 m x.2) S.size))).drew) S R g c5 a dn (crashTo S fa L (k + 1)).1 by
          rw [crashTo_step S fa L k x E4.out, ← HM.out]
          exact (ID.out.set _ e5).drew)
        clear qk2
        clear v0 v1 v2 v3 v4
        go_wp2
        go_roundw
        case rel => exact ⟨k + 1, by omega, by go_num, TK.out⟩
        case measure => simp [intOf]; omega
    · obtain rfl : k = S.loose.length := by omega
      have B6 := HK.out.b0
      have x4 : wr.cell? ⟨w.heap.size, 4, none⟩ = some (.int .i64 (a : Int)) := cell_of_row wr _ 4 _ _ _ B6
      have x5 : wr.cell? ⟨w.heap.size, 5, none⟩ = some (.bool dn) := cell_of_row wr _ 5 _ _ _ B6
      have f3 : wr.frozen? ⟨w.heap.size, 3, none⟩ = false := by simp [World.frozen?, B6]
      have f4 : wr.frozen? ⟨w.heap.size, 4, none⟩ = false := by simp [World.frozen?, B6]
      have f5 : wr.frozen? ⟨w.heap.size, 5, none⟩ = false := by simp [World.frozen?, B6]
      clear B6 HI6 x1 x2
      go_upto_region 11 with (fail)
      have B7 := three_stores wr w.heap.size 32 _ _ _ _ _ _ (.slice none 0 0) (.int .i64 0) (.bool false) HK.out.b0
      have o7 : ∀ j, j ≠ w.heap.size → (((wr.setCell ⟨w.heap.size, 3, none⟩ (.slice none 0 0)).setCell ⟨w.heap.size, 4, none⟩ (.int .i64 0)).setCell ⟨w.heap.size, 5, none⟩ (.bool false)).heap[j]? = wr.heap[j]? := fun j hj => by
        rw [Below.heap_setCell _ ⟨w.heap.size, 5, none⟩ _ j hj, Below.heap_setCell _ ⟨w.heap.size, 4, none⟩ _ j hj, Below.heap_setCell _ ⟨w.heap.size, 3, none⟩ _ j hj]
      have l7 : Below w.heap.size w (((wr.setCell ⟨w.heap.size, 3, none⟩ (.slice none 0 0)).setCell ⟨w.heap.size, 4, none⟩ (.int .i64 0)).setCell ⟨w.heap.size, 5, none⟩ (.bool false)) := ((HK.out.l.setCell (p := ⟨w.heap.size, 3, none⟩) (Nat.le_refl _) _).setCell (p := ⟨w.heap.size, 4, none⟩) (Nat.le_refl _) _).setCell (p := ⟨w.heap.size, 5, none⟩) (Nat.le_refl _) _
      have C7 := (o7 (w.heap.size + 1) (by omega)).trans HK.out.b1
      have rd : RD (((wr.setCell ⟨w.heap.size, 3, none⟩ (.slice none 0 0)).setCell ⟨w.heap.size, 4, none⟩ (.int .i64 0)).setCell ⟨w.heap.size, 5, none⟩ (.bool false)) (crashS S fa L) { g := g, c := c5, A := none, d := 0 } := by
        obtain ⟨cs', d1, d2, d3⟩ := HK.out.f
        have hg := HK.out.hg
        exact ⟨⟨hg.2.1, hg.2.2, cs', (o7 g (by omega)).trans d1, fun i hi => d3 i hi⟩, .inl ⟨rfl, rfl, rfl⟩, hN, hS, by show (0 : Nat) ≤ _; omega, by show (0 : Nat) ≤ _; omega⟩
      generalize ((wr.setCell ⟨w.heap.size, 3, none⟩ (.slice none 0 0)).setCell ⟨w.heap.size, 4, none⟩ (.int .i64 0)).setCell ⟨w.heap.size, 5, none⟩ (.bool false) = W7 at B7 C7 l7 rd ⊢
      have y0 : W7.cell? ⟨w.heap.size, 0, none⟩ = some (.int .i64 (S.N : Int)) := cell_of_row W7 _ 0 _ _ _ B7
      have y1 : W7.cell? ⟨w.heap.size, 1, none⟩ = some (.int .i64 (S.size : Int)) := cell_of_row W7 _ 1 _ _ _ B7
      have y2 : W7.cell? ⟨w.heap.size, 2, none⟩ = some (.slice (some ⟨g, 0, none⟩) S.N c5) := cell_of_row W7 _ 2 _ _ _ B7
      have y3 : W7.cell? ⟨w.heap.size, 3, none⟩ = some (.slice none 0 0) := cell_of_row W7 _ 3 _ _ _ B7
      have y4 : W7.cell? ⟨w.heap.size, 4, none⟩ = some (.int .i64 0) := cell_of_row W7 _ 4 _ _ _ B7
      have y5 : W7.cell? ⟨w.heap.size, 5, none⟩ = some (.bool false) := cell_of_row W7 _ 5 _ _ _ B7
      have u0 : W7.cell? ⟨w.heap.size + 1, 0, none⟩ = some (.int .i64 0) := cell_of_row W7 _ 0 _ _ _ C7
      have u1 : W7.cell? ⟨w.heap.size + 1, 1, none⟩ = some (.int .i64 0) := cell_of_row W7 _ 1 _ _ _ C7
      have u2 : W7.cell? ⟨w.heap.size + 1, 2, none⟩ = some (.slice none 0 0) := cell_of_row W7 _ 2 _ _ _ C7
      have u3 : W7.cell? ⟨w.heap.size + 1, 3, none⟩ = some (.slice none 0 0) := cell_of_row W7 _ 3 _ _ _ C7
      have u4 : W7.cell? ⟨w.heap.size + 1, 4, none⟩ = some (.int .i64 0) := cell_of_row W7 _ 4 _ _ _ C7
      have u5 : W7.cell? ⟨w.heap.size + 1, 5, none⟩ = some (.bool false) := cell_of_row W7 _ 5 _ _ _ C7
      have fz : ∀ i, W7.frozen? ⟨w.heap.size + 1, i, none⟩ = false := fun i => by simp [World.frozen?, C7]
      have f0 := fz 0
      have f1 := fz 1
      have f2 := fz 2
      have f3 := fz 3
      have f4 := fz 4
      have f5 := fz 5
      have PF := Lib.hid (show RCrash (crashS S fa L) w (.returned (.agg #[.int .i64 (S.N : Int), .int .i64 (S.size : Int), .slice (some ⟨g, 0, none⟩) S.N c5, .slice none 0 0, .int .i64 0, .bool false])) (six W7 (w.heap.size + 1) (.int .i64 (S.N : Int)) (.int .i64 (S.size : Int)) (.slice (some ⟨g, 0, none⟩) S.N c5) (.slice none 0 0) (.int .i64 0) (.bool false)) from
        ⟨{ g := g, c := c5, A := none, d := 0 }, rfl, rd.six C7 _ _ _ _ _ _, below_six l7 (by omega) _ _ _ _ _ _⟩)
      clear fz rd B7 C7 l7 o7 HK x3 x4 x5
      go_wp2
      exact bodyPost_ret (v := .agg #[.int .i64 (S.N : Int), .int .i64 (S.size : Int), .slice (some ⟨g, 0, none⟩) S.N c5, .slice none 0 0, .int .i64 0, .bool false]) (by simp [results, Try.results20, go_sem, u0, u1, u2, u3, u4, u5]) rfl PF.out
end Go.Proofs.Ytpajedofffnhdaa
