/- hash's Cover. -/
import Derived.Test.YtihigingddaopaaDoorHSortM
import Derived.Test.YtihigingddaopaaDoorGRect
namespace Go.Proofs.YtihigingddaopaaDoor
open Go.RowKit
set_option linter.unusedVariables false
set_option linter.unusedSimpArgs false

open Go.Shelf
attribute [local go_sem] Oper.semAt_some
/-- A block of cells' value, in a block of its own. -/
structure Bx5 (W : World) (q : Nat) (a b c d e : Value) : Prop where
  hp : W.heap[q]? = some (.cells #[a, b, c, d, e] 37 (0, 0))
section
variable {W W' : World} {q : Nat} {a b c d e : Value}
theorem Bx5.c0 (h : Bx5 W q a b c d e) : W.cell? ⟨q, 0, none⟩ = some a := by simp [World.cell?, h.hp]
theorem Bx5.c1 (h : Bx5 W q a b c d e) : W.cell? ⟨q, 1, none⟩ = some b := by simp [World.cell?, h.hp]
theorem Bx5.c2 (h : Bx5 W q a b c d e) : W.cell? ⟨q, 2, none⟩ = some c := by simp [World.cell?, h.hp]
theorem Bx5.c3 (h : Bx5 W q a b c d e) : W.cell? ⟨q, 3, none⟩ = some d := by simp [World.cell?, h.hp]
theorem Bx5.c4 (h : Bx5 W q a b c d e) : W.cell? ⟨q, 4, none⟩ = some e := by simp [World.cell?, h.hp]
theorem Bx5.fz (h : Bx5 W q a b c d e) (j : Nat) : W.frozen? ⟨q, j, none⟩ = false := by simp [World.frozen?, h.hp]
theorem Bx5.lt (h : Bx5 W q a b c d e) : q < W.heap.size := (Array.getElem?_eq_some_iff.1 h.hp).1
theorem Bx5.below (h : Bx5 W q a b c d e) (hb : Below W.heap.size W W') : Bx5 W' q a b c d e := ⟨(hb.block q h.lt).trans h.hp⟩
theorem Bx5.set0 (h : Bx5 W q a b c d e) (v : Value) : Bx5 (W.setCell ⟨q, 0, none⟩ v) q v b c d e := ⟨by simp [World.setCell, Array.getElem?_modify, h.hp]⟩
theorem Bx5.set1 (h : Bx5 W q a b c d e) (v : Value) : Bx5 (W.setCell ⟨q, 1, none⟩ v) q a v c d e := ⟨by simp [World.setCell, Array.getElem?_modify, h.hp]⟩
theorem Bx5.set2 (h : Bx5 W q a b c d e) (v : Value) : Bx5 (W.setCell ⟨q, 2, none⟩ v) q a b v d e := ⟨by simp [World.setCell, Array.getElem?_modify, h.hp]⟩
theorem Bx5.set3 (h : Bx5 W q a b c d e) (v : Value) : Bx5 (W.setCell ⟨q, 3, none⟩ v) q a b c v e := ⟨by simp [World.setCell, Array.getElem?_modify, h.hp]⟩
theorem Bx5.set4 (h : Bx5 W q a b c d e) (v : Value) : Bx5 (W.setCell ⟨q, 4, none⟩ v) q a b c d v := ⟨by simp [World.setCell, Array.getElem?_modify, h.hp]⟩
end
theorem Bx5.made (W : World) (a b c d e : Value) : Bx5 (W.alloc (.cells #[a, b, c, d, e] 37)) W.heap.size a b c d e := ⟨by unfold World.alloc; simp only []; first | exact Array.getElem?_push_size .. | simp⟩
abbrev BxB (W : World) (q k : Nat) (B : Bk) : Prop := Bx5 W q (.int .i64 (32 - (k : Int))) (.int .u32 (B.a : Nat)) (.int .u32 (B.c : Nat)) (.int .u32 (B.b : Nat)) (.int .u32 (B.d : Nat))
/-- A rect's sides from 0. -/
def bkOf (r : Rc) : Bk := ⟨(r.x0 + 1800000000).toNat, (r.y0 + 900000000).toNat, (r.x1 + 1800000000).toNat, (r.y1 + 900000000).toNat⟩
theorem bkOf_fit {r : Rc} (h : MayR r) : (bkOf r).fit := by
  obtain ⟨⟨a1, a2, a3, a4⟩, ⟨b1, b2, b3, b4⟩, c1, c2⟩ := h
  dsimp only at a1 a2 a3 a4 b1 b2 b3 b4
  refine ⟨?_, ?_, ?_, ?_⟩ <;> (unfold bkOf; dsimp only; omega)
theorem u32_of {x : Int} (h0 : 0 ≤ x) (h1 : x < 4294967296) : IntKind.u32.wrap x = ((x.toNat : Nat) : Int) := by
  simp [IntKind.wrap, IntKind.bits, IntKind.signed]; omega
def CovP (w : World) (B : Bk) (most : Nat) (e : Ending) (w' : World) : Prop := ∃ v L, e = .returned v ∧ Covers B most L ∧ w'.ownsRow w.heap.size 30 2 v L.length (rowR L)
theorem cnt_lt32 {B : Bk} (hB : B.fit) {k m : Nat} (hk : k ≤ 32) (hm : 1 ≤ m) (h : m < (B.up k).cnt) : k < 32 := by
  rcases Nat.lt_or_ge k 32 with h1 | h1
  · exact h1
  · obtain rfl : k = 32 := by omega
    rw [Bk.cnt_32 (Bk.fit_ok hB)] at h
    omega
theorem own_ne {W : World} {base e size n q t : Nat} {v : Value} {xs : List Value} {c : Array Value} (h : W.ownsRow base e size v n xs) (hq : W.heap[q]? = some (.cells c t (0, 0))) (hne : t ≠ e) : v.ownBlock ≠ some q := by
  rcases h.2 with ⟨rfl, _⟩ | ⟨g, cap, cur, rfl, _, hg, _⟩
  · simp [Value.ownBlock]
  · intro e9
    simp [Value.ownBlock] at e9
    subst e9
    rw [hg] at hq
    cases hq
    exact hne rfl
theorem own_base {W : World} {b0 b1 e size n : Nat} {v : Value} {xs : List Value} (h : W.ownsRow b1 e size v n xs) (hb : b0 ≤ b1) : W.ownsRow b0 e size v n xs := by
  refine ⟨h.1, ?_⟩
  rcases h.2 with h | ⟨g, cap, cur, h1, h2, h3⟩
  · exact .inl h
  · exact .inr ⟨g, cap, cur, h1, Nat.le_trans hb h2, h3⟩
theorem cells_top {k : Nat} (hk : k ≤ 32) {B : Bk} (hb : B.b < 2 ^ (32 - k)) (hd : B.d < 2 ^ (32 - k)) (h1 : B.a ≤ B.b) (h2 : B.c ≤ B.d) : ∀ r ∈ cellsR k B, r.2 < 18446744073709551616 := fun r hr => by
  obtain ⟨c, hc, rfl⟩ := List.mem_map.1 hr
  obtain ⟨x, y, hx, hy, rfl⟩ := codes_mem.1 hc
  have := rg_top (x := x) (y := y) hk (by omega) (by omega)
  have hu : 0 < 4 ^ k := Nat.pow_pos (by omega)
  show mixN x y 32 * 4 ^ k + 4 ^ k - 1 < _
  omega
theorem cells_len (k : Nat) (B : Bk) : (cellsR k B).length = B.cnt := by unfold cellsR; rw [List.length_map]; exact codes_len _ _ _ _
theorem cnt_pos' (B : Bk) : 1 ≤ B.cnt := Nat.mul_pos (by omega) (by omega)
set_option maxRecDepth 100000 in
set_option maxHeartbeats 16000000 in
theorem cover_any (r : Rc) (hr : MayR r) (m : Nat) (hm1 : 1 ≤ m) (hm2 : m ≤ 64) (w : World) (hT : MaskT w) :
    Calls Tryd.prog 4 #[.agg #[.int .i64 r.x0, .int .i64 r.y0, .int .i64 r.x1, .int .i64 r.y1], .int .i64 (m : Nat)] w fun e w' => CovP w (bkOf r) m e w' ∧ Below w.heap.size w w' := by
  have KM := Lib.hid (mayRect_any r (w.alloc (.cells #[.int .i64 r.x0, .int .i64 r.y0, .int .i64 r.x1, .int .i64 r.y1] 23)))
  rw [show mayRB r = true from decide_eq_true hr] at KM
  have hF := bkOf_fit hr
  have HF := Lib.hid hF
  have HTm := Lib.hid hT
  have x0 : r.x0 + 1800000000 = (((bkOf r).a : Nat) : Int) := by have := hr.1.1; unfold bkOf; dsimp only at *; omega
  have y0 : r.y0 + 900000000 = (((bkOf r).c : Nat) : Int) := by have := hr.1.2.2.1; unfold bkOf; dsimp only at *; omega
  have x1 : r.x1 + 1800000000 = (((bkOf r).b : Nat) : Int) := by have := hr.1.1; have := hr.2.2.1; unfold bkOf; dsimp only at *; omega
  have y1 : r.y1 + 900000000 = (((bkOf r).d : Nat) : Int) := by have := hr.1.2.2.1; have := hr.2.2.2; unfold bkOf; dsimp only at *; omega
  have bx0 : -1800000000 ≤ r.x0 ∧ r.x0 ≤ 1800000000 := ⟨hr.1.1, hr.1.2.1⟩
  have by0 : -900000000 ≤ r.y0 ∧ r.y0 ≤ 900000000 := ⟨hr.1.2.2.1, hr.1.2.2.2⟩
  have bx1 : -1800000000 ≤ r.x1 ∧ r.x1 ≤ 1800000000 := ⟨hr.2.1.1, hr.2.1.2.1⟩
  have by1 : -900000000 ≤ r.y1 ∧ r.y1 ≤ 900000000 := ⟨hr.2.1.2.2.1, hr.2.1.2.2.2⟩
  obtain ⟨B, hB⟩ : ∃ B, B = bkOf r := ⟨_, rfl⟩
  rw [← hB] at HF ⊢
  rw [← hB] at x0 y0 x1 y1
  obtain ⟨X0, Y0, X1, Y1⟩ := r
  dsimp only at *
  have HX := Lib.hid (And.intro x0 (And.intro y0 (And.intro x1 y1)))
  clear hr hF hT hB
  obtain ⟨B0, hB0⟩ : ∃ B0 : World, B0 = w.alloc (.cells #[.int .i64 X0, .int .i64 Y0, .int .i64 X1, .int .i64 Y1] 23) := ⟨_, rfl⟩
  have e0 : B0.cell? ⟨w.heap.size, 0, none⟩ = some (.int .i64 X0) := by subst hB0; go_simp
  have e1 : B0.cell? ⟨w.heap.size, 1, none⟩ = some (.int .i64 Y0) := by subst hB0; go_simp
  have e2 : B0.cell? ⟨w.heap.size, 2, none⟩ = some (.int .i64 X1) := by subst hB0; go_simp
  have e3 : B0.cell? ⟨w.heap.size, 3, none⟩ = some (.int .i64 Y1) := by subst hB0; go_simp
  have hb0 : Below w.heap.size w B0 := by subst hB0; exact (Below.refl _ _).alloc (Nat.le_refl _) _
  have hs0 : w.heap.size < B0.heap.size := by subst hB0; simp
  rw [← hB0] at KM
  have HW0 := Lib.hid hB0
  clear hB0
  have E0 := Lib.hid e0
  have E1 := Lib.hid e1
  have E2 := Lib.hid e2
  have E3 := Lib.hid e3
  have HB0 := Lib.hid hb0
  clear e0 e1 e2 e3 hb0
  have hwm : IntKind.u64.wrap (m : Int) = (m : Int) := wrap64_nat (by omega)
  have hmI1 : ¬ (m : Int) < 1 := by omega
  have hmI2 : ¬ (64 : Int) < (m : Int) := by omega
  rw [HW0.out] at KM
  refine (callsIn_wide (n := 6)).1 ?_
  refine callsIn_of_wp_marks Tryd.func4 rfl trivial ?_ rfl
  simp only [Tryd.ntmps4, List.size_toArray, List.length_cons, List.length_nil, Nat.reduceAdd, Nat.reduceSub, Array.replicate_succ, Array.replicate_zero, List.push_toArray, List.append_toArray, List.nil_append, List.cons_append]
  gi_upto_region 3 with (refine ⟨trivial, ?_⟩; gi_at_call 7; refine CallsIn.mono (callsIn_wide.2 KM.out) ?_; rintro _ w1 ⟨rfl, l1⟩; have L1 := Lib.hid l1; clear l1)
  rw [← HW0.out] at L1
  have c0 := kp' L1.out hs0 E0.out
  have c1 := kp' L1.out hs0 E1.out
  have c2 := kp' L1.out hs0 E2.out
  have c3 := kp' L1.out hs0 E3.out
  have HB1 := Lib.hid (HB0.out.trans (L1.out.mono HB0.out.size))
  clear x0 y0 x1 y1
  gi_wp2
  have hbx : BxB (w1.alloc (.cells #[.int .i64 32, .int .u32 (X0 + 1800000000), .int .u32 (Y0 + 900000000), .int .u32 (X1 + 1800000000), .int .u32 (Y1 + 900000000)] 37)) w1.heap.size 0 B := by
    have := Bx5.made w1 (.int .i64 32) (.int .u32 (X0 + 1800000000)) (.int .u32 (Y0 + 900000000)) (.int .u32 (X1 + 1800000000)) (.int .u32 (Y1 + 900000000))
    obtain ⟨h0, h1, h2, h3⟩ := HX.out
    rw [h0, h1, h2, h3] at this ⊢
    exact this
  have hb2 : Below w.heap.size w (w1.alloc (.cells #[.int .i64 32, .int .u32 (X0 + 1800000000), .int .u32 (Y0 + 900000000), .int .u32 (X1 + 1800000000), .int .u32 (Y1 + 900000000)] 37)) := HB1.out.alloc HB1.out.size _
  obtain ⟨W1, hW1⟩ : ∃ W1, w1.alloc (.cells #[.int .i64 32, .int .u32 (X0 + 1800000000), .int .u32 (Y0 + 900000000), .int .u32 (X1 + 1800000000), .int .u32 (Y1 + 900000000)] 37) = W1 := ⟨_, rfl⟩
  rw [hW1] at hbx hb2 ⊢
  obtain ⟨Q, hQ⟩ : ∃ Q, w1.heap.size = Q := ⟨_, rfl⟩
  have hQw : w.heap.size ≤ Q := by rw [← hQ]; exact HB1.out.size
  rw [hQ] at hbx ⊢
  have HBx := Lib.hid hbx
  have HB2 := Lib.hid hb2
  clear hW1 hQ hbx hb2 c0 c1 c2 c3 L1 HB1 HX E0 E1 E2 E3 HB0 HW0 KM bx0 by0 bx1 by1
  gi_loopw [] (fun wr => (∃ k : Nat, k ≤ 32 ∧ (∀ j, j < k → m < (B.up j).cnt) ∧ BxB wr Q k (B.up k)) ∧ Below w.heap.size w wr) (fun wr => (intOf ((wr.cell? ⟨Q, 0, none⟩).getD undef)).toNat)
  case atStart => exact ⟨⟨0, by omega, fun j hj => absurd hj (by omega), by rw [Bk.up_zero]; exact HBx.out⟩, HB2.out⟩
  case round =>
    obtain ⟨⟨k, hk, hmore, hbx⟩, hB⟩ := hrel
    have HBx2 := Lib.hid hbx
    have HB3 := Lib.hid hB
    have HMore := Lib.hid hmore
    have d0 := hbx.c0
    have d1 := hbx.c1
    have d2 := hbx.c2
    have d3 := hbx.c3
    have d4 := hbx.c4
    have hQl := hbx.lt
    have KC := Lib.hid (count_any k (B.up k) (Bk.up_fit HF.out k) wr)
    have hms : (intOf ((wr.cell? ⟨Q, 0, none⟩).getD undef)).toNat = 32 - k := by rw [d0]; show (32 - (k : Int)).toNat = 32 - k; omega
    have HMs := Lib.hid hms
    have hcb := cnt_lt (Bk.up_fit HF.out k)
    obtain ⟨n, hn⟩ : ∃ n, (B.up k).cnt = n := ⟨_, rfl⟩
    rw [hn] at KC hcb
    have HN := Lib.hid hn
    clear hbx hB hmore hn hms
    by_cases hgt : m < n
    · have hk2 : k < 32 := cnt_lt32 HF.out hk hm1 (by rw [HN.out]; exact hgt)
      have KA := Lib.hid fun V => above_any k hk2 (B.up k) (Bk.up_fit HF.out k) V
      have hgI : (m : Int) < (n : Int) := by omega
      gi_wp2_with (first
        | (refine ⟨trivial, ?_⟩; gi_at_call 8; refine CallsIn.mono (callsIn_wide.2 KC.out) ?_; rintro _ w5 ⟨rfl, l5⟩; have g0 := kp' l5 hQl d0; have g1 := kp' l5 hQl d1; have g2 := kp' l5 hQl d2; have g3 := kp' l5 hQl d3; have g4 := kp' l5 hQl d4; have L5 := Lib.hid l5; clear l5 d0 d1 d2 d3 d4)
        | (refine ⟨trivial, ?_⟩; gi_at_call 9; refine CallsIn.mono (callsIn_wide.2 (KA.out _)) ?_; rintro _ w6 ⟨rfl, l6⟩; unfold bkA; have L6 := Lib.hid l6; have HBy := Lib.hid ((HBx2.out.below L5.out).below L6.out); have q0 := HBy.out.c0; have q1 := HBy.out.c1; have q2 := HBy.out.c2; have q3 := HBy.out.c3; have q4 := HBy.out.c4; have z0 := HBy.out.fz 0; have z1 := HBy.out.fz 1; have z2 := HBy.out.fz 2; have z3 := HBy.out.fz 3; have z4 := HBy.out.fz 4; clear l6 g0 g1 g2 g3 g4))
      have hfin := ((((HBy.out.set0 (.int .i64 (32 - ((k : Int) + 1)))).set1 (.int .u32 (((B.up k).a : Int) / 2))).set2 (.int .u32 (((B.up k).c : Int) / 2))).set3 (.int .u32 (((B.up k).b : Int) / 2))).set4 (.int .u32 (((B.up k).d : Int) / 2))
      have hb6 := HB3.out.trans ((L5.out.mono HB3.out.size).trans (L6.out.mono (Nat.le_trans HB3.out.size L5.out.size)))
      refine ⟨⟨⟨k + 1, by omega, fun j hj => ?_, ?_⟩, ((((hb6.setCell (p := ⟨Q, 0, none⟩) hQw _).setCell (p := ⟨Q, 1, none⟩) hQw _).setCell (p := ⟨Q, 2, none⟩) hQw _).setCell (p := ⟨Q, 3, none⟩) hQw _).setCell (p := ⟨Q, 4, none⟩) hQw _⟩, ?_⟩
      · rcases Nat.lt_or_ge j k with h | h
        · exact HMore.out j h
        · obtain rfl : j = k := by omega
          rw [HN.out]; exact hgt
      · rw [Bk.up_succ]
        exact hfin
      · rw [hfin.c0, HMs.out]
        show (32 - ((k : Int) + 1)).toNat < 32 - k
        omega
    · have hgI : ¬ (m : Int) < (n : Int) := by omega
      have hgD : decide ((m : Int) < (n : Int)) = false := by simp; omega
      gi_wp2_with (first
        | (refine ⟨trivial, ?_⟩; gi_at_call 8; refine CallsIn.mono (callsIn_wide.2 KC.out) ?_; rintro _ w5 ⟨rfl, l5⟩; have g0 := kp' l5 hQl d0; have g1 := kp' l5 hQl d1; have g2 := kp' l5 hQl d2; have g3 := kp' l5 hQl d3; have g4 := kp' l5 hQl d4; have h5 := (Nat.lt_of_lt_of_le hQl l5.size); have L5 := Lib.hid l5; clear l5 d0 d1 d2 d3 d4)
        | (refine ⟨trivial, ?_⟩; gi_at_call 10; refine CallsIn.mono (callsIn_wide.2 (cells_any k (B.up k) _)) ?_; rintro _ _ ⟨rfl, rfl⟩))
      have bL := (Boxed.new w5 24 (.slice none 0 0)).alloc (.cells (bkA k (B.up k)) 37)
      have hBs : ((w5.alloc (.cells #[.slice none 0 0] 24)).alloc (.cells (bkA k (B.up k)) 37)).heap[w5.heap.size + 1]? = some (.cells (bkA k (B.up k)) 37 (0, 0)) := by
        have := World.alloc_heap_new (w5.alloc (.cells #[.slice none 0 0] 24)) (.cells (bkA k (B.up k)) 37)
        rwa [World.size_alloc] at this
      have hb7 : Below w.heap.size w ((w5.alloc (.cells #[.slice none 0 0] 24)).alloc (.cells (bkA k (B.up k)) 37)) := by
        have h := HB3.out.trans (L5.out.mono HB3.out.size)
        exact (h.alloc h.size _).alloc (by have := h.size; simp; omega) _
      have hw5 : w.heap.size ≤ w5.heap.size := (HB3.out.trans (L5.out.mono HB3.out.size)).size
      have hsz : ((w5.alloc (.cells #[.slice none 0 0] 24)).alloc (.cells (bkA k (B.up k)) 37)).heap.size = w5.heap.size + 2 := by simp
      obtain ⟨W0, hW0⟩ : ∃ W0, (w5.alloc (.cells #[.slice none 0 0] 24)).alloc (.cells (bkA k (B.up k)) 37) = W0 := ⟨_, rfl⟩
      rw [hW0] at bL hBs hb7 hsz ⊢
      clear hW0
      have hup := Bk.up_fit HF.out k
      have hbl : (B.up k).b < 2 ^ (32 - k) := up_lt hk (by have := HF.out.2.1; omega)
      have hdl : (B.up k).d < 2 ^ (32 - k) := up_lt hk (by have := HF.out.2.2.2; omega)
      have hcm : (B.up k).cnt ≤ 64 := by rw [HN.out]; omega
      have HCm := Lib.hid hcm
      have hO0 : W0.ownsRow w.heap.size 30 2 (.slice none 0 0) 0 [] := World.ownsRow_nil W0 _ _ 2
      obtain ⟨i0, hi0, hz0, hz1, hz2⟩ := info_parts infoRg
      obtain ⟨bkc, hbkc⟩ : ∃ bkc, bkc = bkA k (B.up k) := ⟨_, rfl⟩
      have hBs2 := hBs
      rw [← hbkc] at hBs2
      refine wpIn_rangeFunc_ownH rfl (by omega) (gf := 21) (lb := #[.pointer (some ⟨w5.heap.size + 1, 0, none⟩)]) rfl trivial (enters_of Tryd.func21 (by kernel_rfl) rfl)
        (cell_stops (6 - 1) (by omega) (w5.heap.size + 1) w k hk (B.up k) hup hbl hdl HTm.out W0 hb7 hBs) (fun h k => KpE.t h k) (KpE.b hb7.size (by omega)) (Below.refl _ _) (fun _ => rfl)
        (fun pre W => ((∃ v, Boxed W w5.heap.size 24 v ∧ W.ownsRow w.heap.size 30 2 v pre.length (rowR pre) ∧ True) ∧ W.heap[w5.heap.size + 1]? = some (.cells bkc 37 (0, 0))) ∧ (Below w.heap.size w W ∧ w5.heap.size + 2 ≤ W.heap.size))
        (fun cd pre W => False)
        (OwnFrom.and (OwnFrom.and (Own.from (holdsRow_own w.heap.size w5.heap.size 24 30 2 (fun pre => pre.length) rowR (fun _ _ => True)) _) (Own.from (fun s A B' row hs hg hr => (hg.block _ (Array.getElem?_eq_some_iff.1 hs).1 (fun e => by
          obtain ⟨o, ho, hc⟩ := hr _ e.symm
          rw [hs] at ho
          cases ho
          cases hc)).trans hs) _)) (OwnFrom.and (ownFrom_below (Nat.le_refl _) hb7.size) (fun s A B' row hs hg hr => Nat.le_trans hs hg.size)))
        (fun cd s A B' row hs hg hr => hs)
        ⟨⟨⟨_, bL, hO0, trivial⟩, hBs2⟩, hb7, by omega⟩
        (fun x a' W => ∃ Bx, w5.heap.size + 1 < Bx ∧ Bx < W.heap.size ∧ (W.cell? ⟨Bx, 0, none⟩ = some (.int .u64 (x.1 : Nat)) ∧ W.cell? ⟨Bx, 1, none⟩ = some (.int .u64 (x.2 : Nat))) ∧ a' = { tmps := #[.agg #[.int .i64 X0, .int .i64 Y0, .int .i64 X1, .int .i64 Y1], .int .i64 (m : Int), .pointer (some ⟨w.heap.size, 0, none⟩), undef, .slice none 0 0, .pointer (some ⟨Q, 0, none⟩), .pointer (some ⟨w5.heap.size, 0, none⟩), .pointer (some ⟨Bx, 0, none⟩), .agg #[.int .i64 X0, .int .i64 Y0, .int .i64 X1, .int .i64 Y1], .bool true, .bool false, .bool false, .int .i64 (m : Int), .bool (decide ((m : Int) < 1)), .bool (decide ((m : Int) < 1)), .bool (decide ((m : Int) < 1)), .int .i64 (m : Int), .bool (decide (64 < (m : Int))), .bool (decide ((m : Int) < 1) || decide (64 < (m : Int))), .pointer (some ⟨w.heap.size, 0, none⟩), .int .i64 X0, .int .i64 (X0 + 1800000000), .int .u32 (X0 + 1800000000), .pointer (some ⟨w.heap.size, 1, none⟩), .int .i64 Y0, .int .i64 (Y0 + 900000000), .int .u32 (Y0 + 900000000), .pointer (some ⟨w.heap.size, 2, none⟩), .int .i64 X1, .int .i64 (X1 + 1800000000), .int .u32 (X1 + 1800000000), .pointer (some ⟨w.heap.size, 3, none⟩), .int .i64 Y1, .int .i64 (Y1 + 900000000), .int .u32 (Y1 + 900000000), .agg #[.int .i64 32, .int .u32 (X0 + 1800000000), .int .u32 (Y0 + 900000000), .int .u32 (X1 + 1800000000), .int .u32 (Y1 + 900000000)], .agg #[.int .i64 (32 - (k : Int)), .int .u32 ((B.up k).a : Nat), .int .u32 ((B.up k).c : Nat), .int .u32 ((B.up k).b : Nat), .int .u32 ((B.up k).d : Nat)], .int .u64 (n : Int), .int .i64 (m : Int), .int .u64 (m : Int), .bool false, u41, u42, .agg #[.int .i64 (32 - (k : Int)), .int .u32 ((B.up k).a : Nat), .int .u32 ((B.up k).c : Nat), .int .u32 ((B.up k).b : Nat), .int .u32 ((B.up k).d : Nat)], .func (.func 21) #[] #[.pointer (some ⟨w5.heap.size + 1, 0, none⟩)], .agg #[.int .u64 (x.1 : Nat), .int .u64 (x.2 : Nat)], undef, undef, undef, undef, undef, undef, undef, undef], defers := [] })
        (fun x a' _ X Y row hs hg hr => by
          obtain ⟨Bx, h1, h2, ⟨h3, h4⟩, h5⟩ := hs
          have hr' := fun r e => (hr r e).2
          exact ⟨Bx, h1, Nat.lt_of_lt_of_le h2 hg.size, ⟨cell_kept h3 hg hr', cell_kept h4 hg hr'⟩, h5⟩)
        ?assign ?body ?done ?stop
      case assign =>
        rintro l pre x W K ⟨⟨⟨v, bV1, hrow, -⟩, hBq⟩, hB1, hz⟩ hK
        have HKK := Lib.hid hK
        have HRow := Lib.hid hrow
        have HBq := Lib.hid hBq
        have HB1 := Lib.hid hB1
        have HV1 := Lib.hid bV1
        clear hK hrow hBq hB1 bV1
        gi_wp2
        have hl3 : Below W.heap.size W (W.alloc (.cells #[.int .u64 (x.1 : Nat), .int .u64 (x.2 : Nat)] 30)) := (Below.refl _ W).alloc (Nat.le_refl _) _
        refine HKK.out _ _ ((KeepsOthers.alloc _ _).from _) (KpE.below hl3 HB1.out.size (by omega)) ⟨⟨⟨v, HV1.out.alloc _, HRow.out.alloc _, trivial⟩, (hl3.block _ (by omega)).trans HBq.out⟩, HB1.out.trans (hl3.mono HB1.out.size), by simp; omega⟩ ⟨W.heap.size, by omega, by simp, ⟨by go_simp, by go_simp⟩, rfl⟩
      case body =>
        rintro l pre x a' W hl ⟨r, hr⟩ ⟨⟨⟨v, bV1, hrow, -⟩, hBq⟩, hB1, hz⟩ ⟨Bx, hx1, hx2, ⟨y0, y1⟩, rfl⟩ hlt
        have cV := bV1.cell
        have fV := bV1.frozen
        have hpl : pre.length < 64 := by omega
        have hgsz : w.heap.size ≤ W.heap.size := hB1.size
        have hne := own_ne hrow hBq (by decide)
        have HNe := Lib.hid hne
        have HBq := Lib.hid hBq
        clear hne hBq hlt
        gi_wp2_with (gi_at_builtin; refine wpListIn_append_own _ rfl _ _ 24 rfl w.heap.size 30 i0 (.agg #[.int .u64 0, .int .u64 0]) 2 16 Tryd.underlying24 hi0 hz0 hz1 hz2 rfl (by decide) _ _ _ rfl (hrow.alloc _) ⟨W.heap.size, 0, none⟩ 1 1 [.int .u64 (x.1 : Nat), .int .u64 (x.2 : Nat)] rfl rfl (cells_new2 W _ _ _) (by simp [Value.oneCell']) (by unfold maxLen; omega) (by omega) (by simp; omega) ?_; intro v2 w9 hown' hgrow _; obtain ⟨g, cap, rfl⟩ := ownsRow_succ hown'; obtain ⟨hv1', hv2', hr2', hk2', hb2'⟩ := bV1.appended (by decide) hrow hB1.size hw5 hown' hgrow; have hc1' := hv1'.cell; have hf1' := hv1'.frozen)
        have hq : (w9.setCell ⟨w5.heap.size, 0, none⟩ (.slice (some ⟨g, 0, none⟩) (pre.length + 1) cap)).heap[w5.heap.size + 1]? = W.heap[w5.heap.size + 1]? := by
          refine (Below.heap_setCell w9 ⟨w5.heap.size, 0, none⟩ _ _ (by show w5.heap.size + 1 ≠ w5.heap.size; omega)).trans ?_
          refine (hgrow.block (w5.heap.size + 1) (by simp; omega) (fun e => HNe.out e.symm)).trans ?_
          exact Below.heap_alloc _ _ _ (by omega)
        refine ⟨hk2'.from _, ⟨hb2', hq⟩, ?_⟩
        refine ⟨⟨⟨_, hv2', ?_, trivial⟩, hq.trans HBq.out⟩, hB1.trans hb2', Nat.le_trans hz hb2'.size⟩
        have e1 : (pre ++ [x]).length = pre.length + 1 := by simp
        rw [e1, rowR_snoc]
        exact hr2'
      case done =>
        rintro D ys W hD rfl ⟨⟨⟨v, bV1, hrow, -⟩, hBq⟩, hB1, hz⟩ hK
        have hlen := cells_len k (B.up k)
        rw [HN.out] at hlen
        have hn1 : 1 ≤ n := by rw [← HN.out]; exact cnt_pos' _
        obtain ⟨n', rfl⟩ : ∃ n', n = n' + 1 := ⟨n - 1, by omega⟩
        have hrow2 := hrow
        rw [hlen] at hrow2
        obtain ⟨g, cp, rfl⟩ := ownsRow_succ hrow2
        obtain ⟨hH, hgl⟩ := holds_of_own hlen hrow2
        have hgb := (hrow2.lt g rfl).1
        have KSo := sort_any g 0 cp (cellsR k (B.up k)).toArray W hH hgl (by simp; omega)
        rw [List.size_toArray, hlen] at KSo
        have KSort := Lib.hid KSo
        have hneL : w5.heap.size ≠ g := fun e => bV1.not_row (by decide) hrow (by rw [e]; rfl)
        have hneD : D ≠ g := fun e => by
          rcases hrow2.2 with ⟨h9, _⟩ | ⟨g9, cap9, cur9, h9, _, hg9, _⟩
          · cases h9
          · injection h9 with h9 _ _
            injection h9 with h9
            injection h9 with h9 _ _
            subst h9
            rw [e, hg9] at hK
            cases hK
        have hDl : D < W.heap.size := (Array.getElem?_eq_some_iff.1 hK).1
        have cV := bV1.cell
        have HHo := Lib.hid hH
        have HVL := Lib.hid bV1
        have HBW := Lib.hid hB1
        have HK := Lib.hid hK
        have HRw := Lib.hid hrow2
        clear KSo hH hrow hrow2 hBq hB1 hK bV1
        gi_upto_region 11 with (refine ⟨trivial, ?_⟩; gi_at_call 11; refine CallsIn.mono (callsIn_wide.2 KSort.out) ?_; rintro _ ws ⟨rfl, d', nn, os, hp, hs, rfl⟩; have HP := Lib.hid hp; have HSo := Lib.hid hs; clear hp hs)
        obtain ⟨hpm, hpw, hds⟩ := sorted_out' (S := cellsR k (B.up k)) hlen HP.out HSo.out
        obtain ⟨cs, hcs, hcl, hcp⟩ := sorted_cells (k := k) (codes := (B.up k).codes) hpm hpw (codes_nodup (Bk.fit_ok hup).1 (Bk.fit_ok hup).2.1 (Bk.fit_ok hup).2.2.1 (Bk.fit_ok hup).2.2.2)
        have hAsc : Asc d'.toList := by rw [hcs]; exact asc_of k hcl
        have hlenS : d'.toList.length = n' + 1 := by rw [Array.length_toList, hds]
        have hTop : ∀ r ∈ d'.toList, r.2 < 18446744073709551616 := fun r hr => cells_top hk hbl hdl hup.1 hup.2.2.1 r (hpm.mem_iff.1 hr)
        have hRd := rd_of_holds (holdsK_sortWorldK_c encC 2 W g 0 (cellsR k (B.up k)).toArray d' nn os HHo.out hgl (by rw [hds, List.size_toArray, hlen]))
        obtain ⟨Ws, hWs⟩ : ∃ Ws, sortWorldK encC 2 W g 0 nn d' os = Ws := ⟨_, rfl⟩
        have hbS := sort_below (n := nn) HBW.out hgb HBW.out.size d' os
        have hVs : Ws.heap[w5.heap.size]? = W.heap[w5.heap.size]? := by rw [← hWs]; exact sort_block W g nn d' os _ (by omega) hneL
        have hKs : Ws.heap[D]? = some (.deferred (some [])) := by rw [← hWs]; exact (sort_block W g nn d' os _ hDl hneD).trans HK.out
        rw [hWs] at hRd hbS ⊢
        have cVs := Boxed.cell (show Boxed Ws w5.heap.size 24 (.slice (some ⟨g, 0, none⟩) (n' + 1) cp) from hVs.trans HVL.out)
        have KJ0 := joined_any d'.toList hAsc (by omega) hTop g 0 cp Ws hRd
        rw [hlenS] at KJ0
        have KJ := Lib.hid KJ0
        have HBS := Lib.hid hbS
        have HKS := Lib.hid hKs
        have HPm := Lib.hid hpm
        have HPw := Lib.hid hpw
        have hDs : D < Ws.heap.size := (Array.getElem?_eq_some_iff.1 hKs).1
        clear hWs hpm hpw hds hcs hcl hcp hAsc hTop hRd hVs hKs hbS KJ0 cV
        gi_wp2_with (refine ⟨trivial, ?_⟩; gi_at_call 14; refine CallsIn.mono (callsIn_wide.2 KJ.out) ?_; rintro _ wj ⟨v, rfl, hoj, lj⟩; have HOj := Lib.hid hoj; have LJ := Lib.hid lj; clear hoj lj)
        have hKj := (LJ.out.block D hDs).trans HKS.out
        refine ⟨by simp, .inl ⟨_, _, rfl, run_takeDeferred hKj, ?_⟩⟩
        refine ⟨v, by simp [results, Tryd.f4, go_sem], ⟨v, joinL d'.toList, rfl, ⟨k, d'.toList, hk, ?_, HMore.out, HPm.out, HPw.out, rfl⟩, ownsRow_putObj (own_base HOj.out HBS.out.size) _ hKj rfl⟩, ?_⟩
        · rw [HN.out]; omega
        · exact (HBS.out.trans (LJ.out.mono HBS.out.size)).trans (belowK_b (w := w) (Nat.le_refl _) wj D _ _ (Nat.le_trans hb7.size hD) hKj rfl rfl)
      case stop =>
        rintro D cd pre W hD _ h
        exact h.elim
end Go.Proofs.YtihigingddaopaaDoor
