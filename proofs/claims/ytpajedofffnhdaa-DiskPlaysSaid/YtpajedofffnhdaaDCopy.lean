/- The contract of Copy. -/
import Derived.Test.YtpajedofffnhdaaDState
import Derived.Deep.CutRange
import Derived.Deep.RegionHeldLaw
namespace Go.Proofs.Ytpajedofffnhdaa
open Go.RowKit
set_option linter.unusedVariables false

theorem cloneB_nil (w : World) : Calls Try.prog 37 #[.slice none 0 0] w fun e w' => e = .returned (.slice none 0 0) ∧ w = w' := by
  have hnl := fun W : World => Lib.run_eql_slice_nil (P := Try.prog) W 41 5 none 0 0 0 0 Try.underlying41
  go_enter Try.func37, Try.ntmps37
  go_wp2
  go_ret
  exact ⟨rfl, rfl⟩
/-- A copy of a sector's value. -/
def CloneSec [Spare] (F : Nat → Nat) (size : Nat) (w : World) (e : Ending) (w' : World) : Prop := ∃ A n c, e = .returned (.slice A n c) ∧ SecV w' w.heap.size size (.slice A n c) F ∧ Below w.heap.size w w'
theorem clone_sec [Spare] (v : Value) (F : Nat → Nat) (size base : Nat) (w : World) (h : SecV w base size v F) (hs : 64 ≤ size ∧ size ≤ 4096) (hE : ∀ g, w.heap.size ≤ g → Spare.ok g) : Calls Try.prog 37 #[v] w (CloneSec F size w) := by
  rcases h.2 with ⟨rfl, h0⟩ | ⟨g, c, cs, rfl, h2, h3, h4, h5, h6⟩
  · refine (cloneB_nil w).mono ?_
    rintro e w' ⟨rfl, rfl⟩
    exact ⟨_, _, _, rfl, ⟨h.1, .inl ⟨rfl, h0⟩⟩, Below.refl _ _⟩
  · have hb : Bytes w (some ⟨g, 0, none⟩) size F := ⟨by omega, h.1, fun _ => ⟨g, 0, rfl, fun i hi => by
      rw [Nat.zero_add, cell_of_row w g i cs _ _ h5]
      exact h6 i hi⟩⟩
    refine (clone_any g 0 size c F w hb (by omega)).mono ?_
    rintro e w' ⟨B, d, rfl, o1, l1⟩
    exact ⟨_, _, _, rfl, o1.secV (by omega) hE, l1⟩

/-- A copy of a list of sectors. -/
def CloneList (N : Nat) (V : Nat → Value) (w : World) (e : Ending) (w' : World) : Prop :=
  ∃ g cn V', e = .returned (.slice (some ⟨g, 0, none⟩) N cn) ∧ N ≤ cn ∧ cn ≤ 9223372036854775807 ∧ w.heap.size ≤ g ∧ w'.rowIs g 41 cn V' ∧ (∀ i, i < N → V' i = V i) ∧ Below w.heap.size w w'
set_option maxHeartbeats 1000000 in
theorem clone_list (b N : Nat) (V : Nat → Value) (w : World) (h : w.rowIs b 41 N V) (hN : 1 ≤ N ∧ N ≤ 1048576) (hV : ∀ i, i < N → ∃ A n c, V i = .slice A n c) :
    Calls Try.prog 38 #[.slice (some ⟨b, 0, none⟩) N N] w (CloneList N V w) := by
  have hnl := fun W : World => Lib.run_eql_slice_nil (P := Try.prog) W 61 41 (some ⟨b, 0, none⟩) N N 0 0 Try.underlying61
  have L1 := Lib.hid ((Below.refl w.heap.size w).alloc (Nat.le_refl _) (.cells #[] 41))
  have H1 := Lib.hid (h.alloc (.cells #[] 41))
  have HO := Lib.hid (World.ownsRow_lit (e := 41) (size := 1) w #[] 0 (Nat.le_refl _) (by unfold maxLen; omega) rfl)
  have HV := Lib.hid hV
  obtain ⟨i0, hi0, hz0, hz1, hz2⟩ := info_parts sliceinfo
  have HI := Lib.hid (And.intro hi0 (And.intro hz0 (And.intro hz1 hz2)))
  clear h hV hi0 hz0 hz1 hz2
  go_enter Try.func38, Try.ntmps38
  go_wp2_with (at_builtin; refine wpList_append_own_at _ rfl (.tmp 5) (.tmp 6) 61 rfl w.heap.size 41 i0 (.slice none 0 0) 1 24 Try.underlying61 HI.out.1 HI.out.2.1 HI.out.2.2.1 HI.out.2.2.2 rfl (by omega) _ 0 [] rfl ?a1 ⟨b, 0, none⟩ N N ((List.range N).map V) rfl ?a2 ?a3 ?a4 ?a5 ?a6 ?a7 ?a8)
  case a1 => exact HO.out
  case a3 =>
    intro j u hj
    obtain ⟨hj1, hj2⟩ := List.getElem?_eq_some_iff.1 hj
    simp at hj1 hj2
    have := H1.out.cell hj1
    rw [← hj2]
    exact this
  case a4 =>
    intro u hu
    obtain ⟨A, n, c, e⟩ := HV.out u hu
    rw [e]
    rfl
  case a5 => unfold maxLen; omega
  case a6 => omega
  case a8 =>
    intro v' w' o1 g1 _ _
    have l1 : Below w.heap.size w w' := L1.out.grown g1 (by simp) (by rintro k ⟨⟩; exact Nat.le_refl _)
    have q : CloneList N V w (.returned v') w' := by
      rcases o1.2 with ⟨_, h0⟩ | ⟨g, cap, cur, e1, e2, e3, e4, e5, e6, e7⟩
      · omega
      · unfold maxLen at e5
        refine ⟨g, cap, fun i => cur.getD i (.bool false), by rw [e1], e4, e5, e2, ⟨cur, e3, by omega, fun i hi => ?_⟩, fun i hi => ?_, l1⟩
        · have hi2 : i < cur.size := by omega
          simp [Array.getD, hi2]
        · have h2 := congrArg (fun l => l[i]?) e7
          simp only [Nat.mul_one] at h2
          rw [List.getElem?_take_of_lt hi, List.getElem?_map, List.getElem?_range hi] at h2
          have hi2 : i < cur.size := by omega
          simp [hi2] at h2
          simp [Array.getD, hi2, h2]
    have Q := Lib.hid q
    clear o1 g1 l1 q
    go_wp2
    go_ret
    exact Q.out

/-- The new disk while its first list is filled. -/
structure Half [Spare] (w0 w : World) (p bf : Nat) (S : DS) (k : Nat) : Prop where
  hp : w.heap[p]? = some (.cells #[.int .i64 (S.size : Int), .slice (some ⟨bf, 0, none⟩) S.N S.N, .slice none 0 0, .slice none 0 0, .int .i64 (S.armed : Int), .bool S.down] 64 (0, 0))
  bp : w0.heap.size ≤ p
  bb : w0.heap.size ≤ bf
  vf : ∃ V : Nat → Value, w.rowIs bf 41 S.N V ∧ (∀ i, i < k → SecV w w0.heap.size S.size (V i) (S.fast i))
  b : Below w0.heap.size w0 w
section
variable {w0 w w' : World} {p bf k : Nat} {S : DS}
theorem Half.below [Spare] (h : Half w0 w p bf S k) (l : Below w.heap.size w w') : Half w0 w' p bf S k := by
  obtain ⟨V, v1, v2⟩ := h.vf
  exact ⟨(l.block _ (Array.getElem?_eq_some_iff.1 h.hp).1).trans h.hp, h.bp, h.bb, ⟨V, v1.of_block (l.block _ v1.lt), fun i hi => (v2 i hi).keep (keepB_below l)⟩, h.b.trans (l.mono h.b.size)⟩
theorem Half.set [Spare] (h : Half w0 w p bf S k) {y : Value} (hy : SecV w w0.heap.size S.size y (S.fast k)) : Half w0 (w.setCell ⟨bf, k, none⟩ y) p bf S (k + 1) := by
  obtain ⟨V, v1, v2⟩ := h.vf
  obtain ⟨c', cv', cn', cc'⟩ := id v1
  have hb : KeepB w0.heap.size w (w.setCell ⟨bf, k, none⟩ y) := keepB_store cv' (by decide)
  refine ⟨?_, h.bp, h.bb, ⟨_, v1.set k y, fun j hj => ?_⟩, h.b.setCell (p := ⟨bf, k, none⟩) h.bb y⟩
  · rw [Below.heap_setCell w ⟨bf, k, none⟩ y p (type_ne h.hp cv' (by decide))]
    exact h.hp
  · show SecV _ _ S.size (if j = k then y else V j) (S.fast j)
    by_cases e : j = k
    · rw [if_pos e, e]; exact hy.keep hb
    · rw [if_neg e]; exact (v2 j (by omega)).keep hb
end
/-- The state that a copy has ahead of its loose writes. -/
def bareS (S : DS) : DS := { S with now := S.fast, loose := [] }
def keepAll (S : DS) (l : List (Nat × (Nat → Nat))) : DS := l.foldl (fun s x => keepS s x.1 x.2) S
theorem keepAll_snoc (S : DS) (l : List (Nat × (Nat → Nat))) (x : Nat × (Nat → Nat)) : keepAll S (l ++ [x]) = keepS (keepAll S l) x.1 x.2 := by
  unfold keepAll
  rw [List.foldl_append]
  rfl
theorem keepAll_is (S : DS) : ∀ l : List (Nat × (Nat → Nat)), (keepAll S l).N = S.N ∧ (keepAll S l).size = S.size ∧ (keepAll S l).fast = S.fast ∧ (keepAll S l).loose = S.loose ++ l ∧ (keepAll S l).now = fastTo S.now l ∧ (keepAll S l).armed = S.armed ∧ (keepAll S l).down = S.down := by
  intro l
  induction l generalizing S with
  | nil => exact ⟨rfl, rfl, rfl, by simp [keepAll], rfl, rfl, rfl⟩
  | cons x r ih =>
    obtain ⟨h1, h2, h3, h4, h5, h6, h7⟩ := ih (keepS S x.1 x.2)
    refine ⟨h1, h2, h3, ?_, h5, h6, h7⟩
    show (keepAll (keepS S x.1 x.2) r).loose = _
    rw [h4]
    show (S.loose ++ [(x.1, x.2)]) ++ r = S.loose ++ x :: r
    simp
theorem copy_state {S : DS} (h : NowInv S) : keepAll (bareS S) S.loose = S := by
  obtain ⟨h1, h2, h3, h4, h5, h6, h7⟩ := keepAll_is (bareS S) S.loose
  have e5 : (keepAll (bareS S) S.loose).now = S.now := by rw [h5]; funext j; exact (h j).symm
  have e4 : (keepAll (bareS S) S.loose).loose = S.loose := by rw [h4]; rfl
  obtain ⟨a1, a2, a3, a4, a5, a6, a7⟩ := S
  generalize keepAll (bareS ⟨a1, a2, a3, a4, a5, a6, a7⟩) _ = T at *
  obtain ⟨b1, b2, b3, b4, b5, b6, b7⟩ := T
  simp only [bareS] at h1 h2 h3 h6 h7 e4 e5
  subst h1 h2 h3 h6 h7 e4 e5
  rfl

def CopyPost [Spare] (base : Nat) (S : DS) (w : World) (e : Ending) (w' : World) : Prop := ∃ M, e = .returned (.pointer (some ⟨M.p, 0, none⟩)) ∧ On w w.heap.size M (keepAll (bareS S) S.loose) w'

set_option maxRecDepth 100000 in
set_option maxHeartbeats 4000000 in
theorem copy_any [Spare] (w : World) (base : Nat) (M : DM) (S : DS) (h : Dsk w base M S) : Calls Try.prog 27 #[.pointer (some ⟨M.p, 0, none⟩)] w (CopyPost base S w) := by
  have hN := h.hN
  have hS := h.hS
  have hL := h.hL
  have hc0 := h.c0
  have hc1 := h.c1
  have hc4 := h.c4
  have hc5 := h.c5
  have hmk := run_make_row' (P := Try.prog) 61 41 (.slice none 0 0) 24 Try.underlying61 sliceinfo rfl .i64 .i64 S.N (by omega) (by omega)
  have H := Lib.hid h
  clear h
  go_enter Try.func27, Try.ntmps27
  go_wp2_with fail
  go_region
  obtain ⟨W1, hW1⟩ : ∃ W1, W1 = (w.alloc (.cells #[.int .i64 (S.size : Int), .slice none 0 0, .slice none 0 0, .slice none 0 0, .int .i64 (S.armed : Int), .bool S.down] 64)).drew := ⟨_, rfl⟩
  rw [← hW1]
  have hp1 : W1.heap[w.heap.size]? = some (.cells #[.int .i64 (S.size : Int), .slice none 0 0, .slice none 0 0, .slice none 0 0, .int .i64 (S.armed : Int), .bool S.down] 64 (0, 0)) := by rw [hW1]; exact heap_alloc_new w _
  have l1 : Below w.heap.size w W1 := by rw [hW1]; exact ((Below.refl _ _).alloc (Nat.le_refl _) _).drew
  have s1 : W1.heap.size = w.heap.size + 1 := by rw [hW1]; exact World.size_alloc _ _
  have H1 := Lib.hid (H.out.below l1)
  have y1 := H1.out.c1
  have x1 : W1.cell? ⟨w.heap.size, 1, none⟩ = some (.slice none 0 0) := cell_of_row W1 w.heap.size 1 _ _ _ hp1
  have f1 : W1.frozen? ⟨w.heap.size, 1, none⟩ = false := by simp [World.frozen?, hp1]
  have HP1 := Lib.hid hp1
  have L1 := Lib.hid l1
  have Z1 := Lib.hid s1
  clear hW1 hp1 l1 s1 hc0 hc1 hc4 hc5
  have x2 : (W1.alloc (.cells (madeCells #[.slice none 0 0] S.N) 41)).cell? ⟨w.heap.size, 1, none⟩ = some (.slice none 0 0) := (World.cell?_of_block (w := W1) (a := ⟨w.heap.size, 1, none⟩) (Below.heap_alloc _ _ _ (by have := Z1.out; show w.heap.size < _; omega))).trans x1
  have f2 : (W1.alloc (.cells (madeCells #[.slice none 0 0] S.N) 41)).frozen? ⟨w.heap.size, 1, none⟩ = false := (World.frozen?_of_block (w := W1) (a := ⟨w.heap.size, 1, none⟩) (Below.heap_alloc _ _ _ (by have := Z1.out; show w.heap.size < _; omega))).trans f1
  go_upto_region 5 with (fail)
  have h2 : Half w ((W1.alloc (.cells (madeCells #[.slice none 0 0] S.N) 41)).setCell ⟨w.heap.size, 1, none⟩ (.slice (some ⟨W1.heap.size, 0, none⟩) S.N S.N)) w.heap.size W1.heap.size S 0 := by
    have hz := Z1.out
    have a1 : (W1.alloc (.cells (madeCells #[.slice none 0 0] S.N) 41)).heap[w.heap.size]? = _ := (Below.heap_alloc W1 _ w.heap.size (by omega)).trans HP1.out
    refine ⟨heap_store _ w.heap.size 1 _ _ _ a1, Nat.le_refl _, by omega, ⟨_, (World.rowIs_made W1 (.slice none 0 0) S.N 41).setOther (show W1.heap.size ≠ w.heap.size by omega) _, fun i hi => absurd hi (by omega)⟩, ?_⟩
    exact (L1.out.alloc L1.out.size _).setCell (p := ⟨w.heap.size, 1, none⟩) (Nat.le_refl _) _
  obtain ⟨bf, hbf⟩ : ∃ bf, bf = W1.heap.size := ⟨_, rfl⟩
  rw [← hbf] at h2 ⊢
  generalize (W1.alloc (.cells (madeCells #[.slice none 0 0] S.N) 41)).setCell ⟨w.heap.size, 1, none⟩ (.slice (some ⟨bf, 0, none⟩) S.N S.N) = W2 at h2 ⊢
  have H2 := Lib.hid h2
  have y2 := (H.out.below h2.b).c1
  have hne : bf ≠ w.heap.size := by have := Z1.out; omega
  clear h2 x1 x2 f1 f2 y1 HP1 L1 H1 hbf Z1 hmk
  go_wp2
  go_loopw [38] (fun i wr => ∃ k : Nat, k ≤ S.N ∧ i = .int .i64 k ∧ Half w wr w.heap.size bf S k) (fun i _ => S.N - (intOf i).toNat)
  case atStart => exact ⟨0, Nat.zero_le _, rfl, H2.out⟩
  case round =>
    obtain ⟨k, hk, rfl, hh⟩ := hrel
    have HH := Lib.hid hh
    clear hh
    by_cases hlt : k < S.N
    · have D := H.out.below HH.out.b
      obtain ⟨V, v1, v2⟩ := D.vf
      have z1 := v1.cell hlt
      have s8 := v2 k hlt
      obtain ⟨a1, a2, a3, hv⟩ := s8.isSlice
      rw [hv] at z1 s8
      have S8 := Lib.hid s8
      have p1 : wr.cell? ⟨w.heap.size, 1, none⟩ = some (.slice (some ⟨bf, 0, none⟩) S.N S.N) := cell_of_row wr w.heap.size 1 _ _ _ HH.out.hp
      have zz : w.heap.size < wr.heap.size := (Array.getElem?_eq_some_iff.1 HH.out.hp).1
      obtain ⟨U, u1, _⟩ := HH.out.vf
      have u2 := u1.cell hlt
      have u3 := u1.frozen k
      have zb := u1.lt
      clear D v1 v2 s8 hv u1
      go_wp2
      go_region_held_law (fun W => W.cell? ⟨w.heap.size, 1, none⟩ = some (.slice (some ⟨bf, 0, none⟩) S.N S.N))
        (first | exact (World.cell?_of_block (w := W3) (a := ⟨w.heap.size, 1, none⟩) (Below.heap_setCell W3 ⟨bf, k, none⟩ _ w.heap.size hne.symm)).trans q0 | exact q0 | exact p1 | go_keep)
        (first
          | (go_at_call 37; refine (clone_sec _ (S.fast k) S.size base _ (S8.out.keep (keepB_below (Below.refl _ _).drew)) hS (fun g hg => H.out.hE g (Nat.le_trans HH.out.b.size hg))).mono ?_; rintro e W3 ⟨e1, e2, e3, rfl, sc, lc⟩; have q0 := (lc.cell (p := ⟨w.heap.size, 1, none⟩) zz).trans p1; have q1 := (lc.cell (p := ⟨bf, k, none⟩) zb).trans u2; have q2 := (lc.frozen (p := ⟨bf, k, none⟩) zb).trans u3))
      have lc2 : Below wr.heap.size wr W3 := (Below.refl wr.heap.size wr).drew.trans lc
      have HX := Lib.hid ((HH.out.below lc2).set (y := .slice e1 e2 e3) (sc.lower (by have := HH.out.b.size; show w.heap.size ≤ wr.heap.size; exact this)))
      clear lc lc2 sc q0 q1 q2
      go_wp2
      go_roundw
      case rel => exact ⟨k + 1, by omega, by go_num, HX.out⟩
      case measure => simp [intOf]; omega
    · obtain rfl : k = S.N := by omega
      have p1 : wr.cell? ⟨w.heap.size, 1, none⟩ = some (.slice (some ⟨bf, 0, none⟩) S.N S.N) := cell_of_row wr w.heap.size 1 _ _ _ HH.out.hp
      have zz : w.heap.size < wr.heap.size := (Array.getElem?_eq_some_iff.1 HH.out.hp).1
      obtain ⟨U, u1, u4⟩ := HH.out.vf
      have U1 := Lib.hid u1
      have U4 := Lib.hid u4
      clear u1 u4 hk hlt hN
      go_wp2_with fail
      refine (clone_list bf S.N U wr U1.out H.out.hN (fun i hi => (U4.out i hi).isSlice)).mono ?_
      rintro e W3 ⟨g, cn, V', rfl, c1, c2, c3, c4, c5, lc⟩
      have h3 := HH.out.below lc
      have p2 : W3.cell? ⟨w.heap.size, 2, none⟩ = some (.slice none 0 0) := cell_of_row W3 w.heap.size 2 _ _ _ h3.hp
      have f2 : W3.frozen? ⟨w.heap.size, 2, none⟩ = false := by simp [World.frozen?, h3.hp]
      have gne : g ≠ w.heap.size := by omega
      have d4 : Dsk (W3.setCell ⟨w.heap.size, 2, none⟩ (.slice (some ⟨g, 0, none⟩) S.N cn)) w.heap.size { p := w.heap.size, bf := bf, bn := g, cn := cn, vl := .slice none 0 0 } (bareS S) := by
        have kb : KeepB w.heap.size W3 (W3.setCell ⟨w.heap.size, 2, none⟩ (.slice (some ⟨g, 0, none⟩) S.N cn)) := keepB_store h3.hp (by decide)
        obtain ⟨U', v1, v2⟩ := h3.vf
        refine ⟨heap_store W3 w.heap.size 2 _ _ _ h3.hp, Nat.le_refl _, ⟨U', v1.setOther hne _, fun i hi => (v2 i hi).keep kb⟩, ⟨V', c4.setOther gne _, fun i hi => ?_⟩, ?_, h3.bb, by show w.heap.size ≤ g; omega, ⟨[], rfl, World.ownsRow_nil _ _ _ _, fun _ _ _ hj => by simp at hj⟩, H.out.hN, hS, H.out.hA, by show (0 : Nat) ≤ 1000000; omega, ⟨c1, c2⟩, fun g hg => H.out.hE g (by rw [size_set] at hg; exact Nat.le_trans h3.b.size hg)⟩
        · rw [c5 i hi]
          exact ((U4.out i hi).keep (keepB_below lc)).keep kb
        · show bf ≠ g
          have := U1.out.lt
          omega
      have o4 : On w w.heap.size { p := w.heap.size, bf := bf, bn := g, cn := cn, vl := .slice none 0 0 } (bareS S) (W3.setCell ⟨w.heap.size, 2, none⟩ (.slice (some ⟨g, 0, none⟩) S.N cn)) := ⟨d4, h3.b.setCell (p := ⟨w.heap.size, 2, none⟩) (Nat.le_refl _) _, Nat.le_refl _⟩
      clear d4 h3 c1 c2 c3 c4 c5 lc HH U1 U4
      go_upto_region 11 with (fail)
      generalize W3.setCell ⟨w.heap.size, 2, none⟩ (.slice (some ⟨g, 0, none⟩) S.N cn) = W4 at o4 ⊢
      have O4 := Lib.hid o4
      have D4 := H.out.below o4.b
      have hc3 := D4.c3
      obtain ⟨n, c', A', hv⟩ : ∃ n c A, M.vl = .slice A n c ∧ n = S.loose.length := by
        obtain ⟨vs, l1, l2, l3⟩ := D4.lo
        rcases l2.2 with ⟨h2, h3⟩ | ⟨g, cap, cur, a1, a2, a3, a4⟩
        · exact ⟨0, 0, none, h2, by omega⟩
        · exact ⟨_, _, _, a1, rfl⟩
      obtain ⟨hv1, hv2⟩ := hv
      subst hv2
      rw [hv1] at hc3
      have HV1 := Lib.hid hv1
      clear o4 D4 p2 f2 p1 hv1
      go_wp2
      go_loopw [65] (fun i wr => ∃ k : Nat, k ≤ S.loose.length ∧ i = .int .i64 k ∧ ∃ v', On w w.heap.size { p := w.heap.size, bf := bf, bn := g, cn := cn, vl := v' } (keepAll (bareS S) (S.loose.take k)) wr) (fun i _ => S.loose.length - (intOf i).toNat)
      case atStart => exact ⟨0, Nat.zero_le _, rfl, .slice none 0 0, O4.out⟩
      case round =>
        obtain ⟨k, hk, rfl, v', ho⟩ := hrel
        have HO := Lib.hid ho
        clear ho
        by_cases hlt : k < S.loose.length
        · have D := H.out.below HO.out.b
          obtain ⟨g5, c5, x, v, e1, e2, e3, e4, e5, e6, e7, e8, e0⟩ := D.looseAt k hlt
          rw [HV1.out] at e1
          injection e1 with e1 q1 q2
          subst e1
          clear q1 q2
          obtain ⟨gb, cb, rfl, hcb⟩ := e8.isOwn
          obtain ⟨T, hT⟩ : ∃ T, T = keepAll (bareS S) (S.loose.take k) := ⟨_, rfl⟩
          have hTs := keepAll_is (bareS S) (S.loose.take k)
          rw [← hT] at hTs HO
          have hsz : T.size = S.size := hTs.2.1
          have hN' : T.N = S.N := hTs.1
          have hlen : T.loose.length < 1000000 := by
            rw [hTs.2.2.2.1]
            show ([] ++ S.loose.take k).length < 1000000
            simp
            omega
          obtain ⟨W5, hW5⟩ : ∃ W5, W5 = wr.alloc (.cells #[.int .i64 (x.1 : Int), .slice (some ⟨gb, 0, none⟩) S.size cb] 68) := ⟨_, rfl⟩
          have l5 : Below wr.heap.size wr W5 := by rw [hW5]; exact (Below.refl _ _).alloc (Nat.le_refl _) _
          have O5 := HO.out.below l5
          have e7' : x.1 < S.N := e7
          have KC := Lib.hid (keep_any x.1 gb 0 cb x.2 W5 w.heap.size { p := w.heap.size, bf := bf, bn := g, cn := cn, vl := v' } T O5.d O5.le (by rw [hN']; exact e7') hlen (by rw [hsz]; exact (e8.keep (keepB_below l5)).bytes))
          rw [hsz] at KC
          have NX := Lib.hid (show keepS T x.1 x.2 = keepAll (bareS S) (S.loose.take (k + 1)) by
            have e4' : S.loose[k]? = some x := e4
            rw [List.take_add_one, e4', hT]
            exact (keepAll_snoc _ _ _).symm)
          have HW5 := Lib.hid hW5
          have HO5 := Lib.hid O5
          clear D e4 e7 e7' e8 l5 O5 hT hTs hsz hN' hlen hW5 e2
          have f5 : wr.frozen? ⟨g5, k * 2, none⟩ = false ∧ wr.frozen? ⟨g5, k * 2 + 1, none⟩ = false := ⟨e0 _, e0 _⟩
          clear e0
          go_wp2_with fail
          rw [← HW5.out]
          refine KC.out.mono ?_
          rintro e w6 ⟨rfl, v6, d6, t6, _, _⟩
          have H6 := Lib.hid (show On w w.heap.size { p := w.heap.size, bf := bf, bn := g, cn := cn, vl := v6 } (keepAll (bareS S) (S.loose.take (k + 1))) w6 by rw [← NX.out]; exact HO5.out.to d6 t6)
          clear d6 t6 e5 e6
          go_wp2
          go_roundw
          case rel => exact ⟨k + 1, by omega, by go_num, v6, H6.out⟩
          case measure => simp [intOf]; omega
        · obtain rfl : k = S.loose.length := by omega
          have HF := Lib.hid (show CopyPost base S w (.returned (.pointer (some ⟨w.heap.size, 0, none⟩))) wr by
            have := HO.out
            rw [List.take_length] at this
            exact ⟨_, rfl, this⟩)
          go_wp2
          go_ret
          exact HF.out
end Go.Proofs.Ytpajedofffnhdaa
