/- The document's New. -/
import Derived.Test.YtpajedofffnhdaaDRef4
import Derived.Deep.RegionLaw
namespace Go.Proofs.Ytpajedofffnhdaa
open Go.RowKit
set_option linter.unusedVariables false

/-- The document's new disk while its list is gathered. -/
structure NI (w wr : World) (N size k : Nat) (A : Option Addr) (c : Nat) : Prop where
  b0 : wr.heap[w.heap.size]? = some (.cells #[.int .i64 0, .int .i64 0, .slice none 0 0, .slice none 0 0, .int .i64 0, .bool false] 32 (0, 0))
  b1 : wr.heap[w.heap.size + 1]? = some (.cells #[.int .i64 (N : Int), .int .i64 (size : Int), .slice A k c, .slice none 0 0, .int .i64 0, .bool false] 32 (0, 0))
  o : wr.ownsRow (w.heap.size + 2) 9 1 (.slice A k c) k (sCells (fun _ _ => 0) size k)
  l : Below w.heap.size w wr
  z : w.heap.size + 2 ≤ wr.heap.size

theorem zero_conv (size : Nat) (w : World) (h : size ≤ 4096) : (convert 41 9 (.slice (some ⟨w.heap.size, 0, none⟩) size size)).run Try.prog (w.alloc (.cells (madeCells #[.int .u8 0] size) 5)) = .ok (.string (strF (fun _ => 0) size)) (w.alloc (.cells (madeCells #[.int .u8 0] size) 5)) := by
  have b := ((BRow.made w size (by omega)).bytes (o := 0) (m := size) (by omega)).congr (G := fun _ => 0) fun i _ => rfl
  exact conv_any size b

def twoNew (wr : World) (size : Nat) : World := ((wr.alloc (.cells (madeCells #[.int .u8 0] size) 5)).alloc (.cells #[.string (strF (fun _ => 0) size)] 9)).drew
theorem NI.below {w wr w2 : World} {N size k c : Nat} {A : Option Addr} (h : NI w wr N size k A c) (g : (twoNew wr size).grownBy w2 (Value.slice A k c).ownBlock) : Below (w.heap.size + 2) wr w2 := by
  have l : Below (w.heap.size + 2) wr (twoNew wr size) := (((Below.refl _ _).alloc h.z _).alloc (by have := h.z; rw [World.size_alloc]; omega) _).drew
  exact l.grown g (Nat.le_trans h.z l.size) fun j hj => (h.o.lt j hj).1
theorem NI.later {w wr : World} {N size k c : Nat} {A : Option Addr} (h : NI w wr N size k A c) : ∀ w2, (twoNew wr size).grownBy w2 (Value.slice A k c).ownBlock → w2.cell? ⟨w.heap.size + 1, 2, none⟩ = some (.slice A k c) ∧ w2.frozen? ⟨w.heap.size + 1, 2, none⟩ = false := fun w2 g => by
  have b := ((h.below g).block (w.heap.size + 1) (by omega)).trans h.b1
  exact ⟨cell_of_row w2 _ 2 _ _ _ b, by simp [World.frozen?, b]⟩
theorem NI.next {w wr w2 : World} {N size k c g2 c2 : Nat} {A : Option Addr} (h : NI w wr N size k A c) (g : (twoNew wr size).grownBy w2 (Value.slice A k c).ownBlock)
    (ho : w2.ownsRow (w.heap.size + 2) 9 1 (.slice (some ⟨g2, 0, none⟩) (k + 1) c2) (k + 1) (sCells (fun _ _ => 0) size k ++ [.string (strF (fun _ => 0) size)])) :
    NI w (w2.setCell ⟨w.heap.size + 1, 2, none⟩ (.slice (some ⟨g2, 0, none⟩) (k + 1) c2)) N size (k + 1) (some ⟨g2, 0, none⟩) c2 := by
  have l := h.below g
  have b0 := (l.block w.heap.size (by omega)).trans h.b0
  have b1 := (l.block (w.heap.size + 1) (by omega)).trans h.b1
  have e : sCells (fun _ _ => 0) size k ++ [.string (strF (fun _ => 0) size)] = sCells (fun _ _ => 0) size (k + 1) := by
    unfold sCells
    rw [List.range_succ, List.map_append]
    rfl
  rw [e] at ho
  refine ⟨(Below.heap_setCell w2 ⟨w.heap.size + 1, 2, none⟩ _ _ (by show w.heap.size ≠ w.heap.size + 1; omega)).trans b0, heap_store w2 (w.heap.size + 1) 2 _ _ _ b1, ownsRow_setCell_below ho (by show w.heap.size + 1 < w.heap.size + 2; omega) _, ?_, ?_⟩
  · exact ((h.l.trans (l.mono (by omega))).setCell (p := ⟨w.heap.size + 1, 2, none⟩) (by show w.heap.size ≤ w.heap.size + 1; omega) _)
  · show w.heap.size + 2 ≤ (w2.setCell _ _).heap.size
    rw [size_set]
    exact Nat.le_trans h.z l.size

set_option maxRecDepth 100000 in
set_option maxHeartbeats 2000000 in
theorem refNew_any (N size : Nat) (w : World) (hN : 1 ≤ N ∧ N ≤ 8) (hS : 64 ≤ size ∧ size ≤ 4096) :
    Calls Try.prog 13 #[.int .i64 N, .int .i64 size] w (RCrash (newS N size) w) := by
  have hmk := run_make_row' (P := Try.prog) 41 5 (.int .u8 0) 1 Try.underlying41 u8info rfl .i64 .i64 size (by omega) (by omega)
  have l1 := ((Below.refl w.heap.size w).alloc (Nat.le_refl _) (.cells #[.int .i64 0, .int .i64 0, .slice none 0 0, .slice none 0 0, .int .i64 0, .bool false] 32)).alloc (by simp) (.cells #[.int .i64 (N : Int), .int .i64 (size : Int), .slice none 0 0, .slice none 0 0, .int .i64 0, .bool false] 32)
  have I1 : NI w ((w.alloc (.cells #[.int .i64 0, .int .i64 0, .slice none 0 0, .slice none 0 0, .int .i64 0, .bool false] 32)).alloc (.cells #[.int .i64 (N : Int), .int .i64 (size : Int), .slice none 0 0, .slice none 0 0, .int .i64 0, .bool false] 32)) N size 0 none 0 := by
    refine ⟨?_, ?_, World.ownsRow_nil _ _ _ _, l1, by simp⟩
    · rw [Below.heap_alloc _ _ _ (by simp)]
      exact heap_alloc_new w _
    · have := heap_alloc_new (w.alloc (.cells #[.int .i64 0, .int .i64 0, .slice none 0 0, .slice none 0 0, .int .i64 0, .bool false] 32)) (.cells #[.int .i64 (N : Int), .int .i64 (size : Int), .slice none 0 0, .slice none 0 0, .int .i64 0, .bool false] 32)
      rw [World.size_alloc] at this
      exact this
  have HI1 := Lib.hid I1
  obtain ⟨i0, hi0, hz0, hz1, hz2⟩ := info_parts strinfo
  have HJ := Lib.hid (And.intro hi0 (And.intro hz0 (And.intro hz1 hz2)))
  clear l1 I1 hi0 hz0 hz1 hz2
  go_enter Try.func13, Try.ntmps13
  go_wp2
  go_loopw [6] (fun i wr => ∃ k : Nat, k ≤ N ∧ i = .int .i64 k ∧ ∃ A c, NI w wr N size k A c) (fun i _ => N - (intOf i).toNat)
  case atStart => exact ⟨0, Nat.zero_le _, rfl, none, 0, HI1.out⟩
  case round =>
    obtain ⟨k, hk, rfl, A, c, hi⟩ := hrel
    have HK := Lib.hid hi
    clear hi
    by_cases hlt : k < N
    · obtain ⟨Wr, hWr⟩ : ∃ Wr, Wr = wr.drew := ⟨_, rfl⟩
      have cv := zero_conv size wr hS.2
      have cv2 : (convert 41 9 (.slice (some ⟨wr.heap.size, 0, none⟩) size size)).run Try.prog (wr.alloc (.cells (madeCells #[.int .u8 0] size) 5)).drew = .ok (.string (strF (fun _ => 0) size)) (wr.alloc (.cells (madeCells #[.int .u8 0] size) 5)).drew := zero_conv size wr.drew hS.2
      have x2 : wr.cell? ⟨w.heap.size + 1, 2, none⟩ = some (.slice A k c) := cell_of_row wr _ 2 _ _ _ HK.out.b1
      have zz := HK.out.z
      have xa : ∀ o, (wr.alloc o).cell? ⟨w.heap.size + 1, 2, none⟩ = some (.slice A k c) := fun o => (World.cell?_of_block (w := wr) (a := ⟨w.heap.size + 1, 2, none⟩) (Below.heap_alloc _ _ _ (by show w.heap.size + 1 < _; omega))).trans x2
      have xb : ∀ o p, ((wr.alloc o).alloc p).cell? ⟨w.heap.size + 1, 2, none⟩ = some (.slice A k c) := fun o p => (World.cell?_of_block (w := wr.alloc o) (a := ⟨w.heap.size + 1, 2, none⟩) (Below.heap_alloc _ _ _ (by rw [World.size_alloc]; show w.heap.size + 1 < _; omega))).trans (xa o)
      have OW := Lib.hid (((HK.out.o.alloc (.cells (madeCells #[.int .u8 0] size) 5)).alloc (.cells #[.string (strF (fun _ => 0) size)] 9)).drew)
      have NW := Lib.hid (show ∀ (j : Nat) (u : Value), [Value.string (strF (fun _ => 0) size)][j]? = some u → ((wr.alloc (.cells (madeCells #[.int .u8 0] size) 5)).alloc (.cells #[.string (strF (fun _ => 0) size)] 9)).drew.cell? ((⟨wr.heap.size + 1, 0, none⟩ : Addr).add j) = some u from fun j u hj => by
        match j, hj with
        | 0, hj =>
          simp at hj
          subst hj
          have := heap_alloc_new (wr.alloc (.cells (madeCells #[.int .u8 0] size) 5)) (.cells #[.string (strF (fun _ => 0) size)] 9)
          rw [World.size_alloc] at this
          exact cell_of_row _ (wr.heap.size + 1) 0 _ _ _ this)
      have ONE := Lib.hid (show ∀ u ∈ [Value.string (strF (fun _ => 0) size)], u.oneCell' = true from fun u hu => by rw [List.mem_singleton.1 hu]; rfl)
      have ZW := Lib.hid (show w.heap.size + 2 ≤ ((wr.alloc (.cells (madeCells #[.int .u8 0] size) 5)).alloc (.cells #[.string (strF (fun _ => 0) size)] 9)).drew.heap.size by
        show w.heap.size + 2 ≤ ((wr.alloc _).alloc _).heap.size
        rw [World.size_alloc, World.size_alloc]
        omega)
      have LW := Lib.hid (NI.later HK.out (size := size))
      clear hWr
      go_wp2
      go_region_law (refine step_append_own rfl (.tmp 16) (.tmp 20) 29 rfl (w.heap.size + 2) 9 i0 (.string ⟨#[]⟩) 1 16 Try.underlying29 HJ.out.1 HJ.out.2.1 HJ.out.2.2.1 HJ.out.2.2.2 rfl (by decide) (.slice A k c) k (sCells (fun _ _ => 0) size k) rfl OW.out ⟨wr.heap.size + 1, 0, none⟩ 1 1 [.string (strF (fun _ => 0) size)] rfl rfl NW.out ONE.out (by unfold maxLen; omega) (by omega) ZW.out ?_; intro v2 w2 ho2 hg2 hb2 hs2; obtain ⟨g2, c2, hv2⟩ := hs2; obtain rfl := hv2.resolve_right (by omega); have q2 := (LW.out _ hg2.out).1; have q3 := (LW.out _ hg2.out).2)
      all_goals
        have NX := Lib.hid (show NI w (w2.setCell ⟨w.heap.size + 1, 2, none⟩ (.slice (some ⟨g2, 0, none⟩) (k + 1) c2)) N size (k + 1) (some ⟨g2, 0, none⟩) c2 from NI.next HK.out hg2.out ho2.out)
        clear q2 q3 ho2 hg2 hb2
        go_wp2
        go_roundw
        case rel => exact ⟨k + 1, by omega, by go_num, _, _, NX.out⟩
        case measure => simp [intOf]; omega
    · obtain rfl : k = N := by omega
      obtain ⟨g, hg, cs, hcs, hA, hc1, hc2, hsz, hget⟩ := strs_of_row HK.out.o hN.1
      subst hA
      have C7 := HK.out.b0
      have B7 := HK.out.b1
      have rd : RD wr (newS k size) { g := g, c := c, A := none, d := 0 } :=
        ⟨⟨hc1, hc2, cs, hcs, fun i hi => hget i hi⟩, .inl ⟨rfl, rfl, rfl⟩, ⟨hN.1, by show k ≤ 1048576; omega⟩, hS, by show (0 : Nat) ≤ _; omega, by show (0 : Nat) ≤ _; omega⟩
      have y0 : wr.cell? ⟨w.heap.size + 1, 0, none⟩ = some (.int .i64 (k : Int)) := cell_of_row wr _ 0 _ _ _ B7
      have y1 : wr.cell? ⟨w.heap.size + 1, 1, none⟩ = some (.int .i64 (size : Int)) := cell_of_row wr _ 1 _ _ _ B7
      have y2 : wr.cell? ⟨w.heap.size + 1, 2, none⟩ = some (.slice (some ⟨g, 0, none⟩) k c) := cell_of_row wr _ 2 _ _ _ B7
      have y3 : wr.cell? ⟨w.heap.size + 1, 3, none⟩ = some (.slice none 0 0) := cell_of_row wr _ 3 _ _ _ B7
      have y4 : wr.cell? ⟨w.heap.size + 1, 4, none⟩ = some (.int .i64 0) := cell_of_row wr _ 4 _ _ _ B7
      have y5 : wr.cell? ⟨w.heap.size + 1, 5, none⟩ = some (.bool false) := cell_of_row wr _ 5 _ _ _ B7
      have u0 : wr.cell? ⟨w.heap.size, 0, none⟩ = some (.int .i64 0) := cell_of_row wr _ 0 _ _ _ C7
      have u1 : wr.cell? ⟨w.heap.size, 1, none⟩ = some (.int .i64 0) := cell_of_row wr _ 1 _ _ _ C7
      have u2 : wr.cell? ⟨w.heap.size, 2, none⟩ = some (.slice none 0 0) := cell_of_row wr _ 2 _ _ _ C7
      have u3 : wr.cell? ⟨w.heap.size, 3, none⟩ = some (.slice none 0 0) := cell_of_row wr _ 3 _ _ _ C7
      have u4 : wr.cell? ⟨w.heap.size, 4, none⟩ = some (.int .i64 0) := cell_of_row wr _ 4 _ _ _ C7
      have u5 : wr.cell? ⟨w.heap.size, 5, none⟩ = some (.bool false) := cell_of_row wr _ 5 _ _ _ C7
      have fz : ∀ i, wr.frozen? ⟨w.heap.size, i, none⟩ = false := fun i => by simp [World.frozen?, C7]
      have f0 := fz 0
      have f1 := fz 1
      have f2 := fz 2
      have f3 := fz 3
      have f4 := fz 4
      have f5 := fz 5
      have PF := Lib.hid (show RCrash (newS k size) w (.returned (.agg #[.int .i64 (k : Int), .int .i64 (size : Int), .slice (some ⟨g, 0, none⟩) k c, .slice none 0 0, .int .i64 0, .bool false])) (six wr w.heap.size (.int .i64 (k : Int)) (.int .i64 (size : Int)) (.slice (some ⟨g, 0, none⟩) k c) (.slice none 0 0) (.int .i64 0) (.bool false)) from
        ⟨{ g := g, c := c, A := none, d := 0 }, rfl, rd.six C7 _ _ _ _ _ _, below_six HK.out.l (Nat.le_refl _) _ _ _ _ _ _⟩)
      clear fz rd B7 C7 hcs hsz hget HI1 hmk HK
      go_wp2
      exact bodyPost_ret (v := .agg #[.int .i64 (k : Int), .int .i64 (size : Int), .slice (some ⟨g, 0, none⟩) k c, .slice none 0 0, .int .i64 0, .bool false]) (by simp [results, Try.results13, go_sem, u0, u1, u2, u3, u4, u5]) rfl PF.out
end Go.Proofs.Ytpajedofffnhdaa
