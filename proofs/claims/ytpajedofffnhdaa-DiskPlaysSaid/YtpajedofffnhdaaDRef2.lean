/- The document's Put. -/
import Derived.Test.YtpajedofffnhdaaDRef
import Derived.Laws.AppendOwnNone
namespace Go.Proofs.Ytpajedofffnhdaa
open Go.RowKit
set_option linter.unusedVariables false

def RPost (S' : DS) (er : Int) (w : World) (e : Ending) (w' : World) : Prop := ∃ R', e = .returned (.tuple #[.agg (RCells S' R'), .int .i64 er]) ∧ RD w' S' R' ∧ Below w.heap.size w w'

theorem rwinfo : (Try.prog.info? 71).map (fun i => (i.zero, i.size, i.bytes)) = some (some (.agg #[.int .i64 0, .string ⟨#[]⟩]), 2, 24) := by kernel_rfl

/-- append onto a row of the call's own, whatever the source, nil too. -/
theorem wpList_append_ad {P : Program} (w : World) {ops : Array Oper} {rest : List Oper} {o : Oper} {a : Act} {Q : Exit → Act → World → Prop} (hgd : o.guard = none) (s x : Operand) (t : TypeId)
    (ho : o.op = .call { callee := .builtin .append, args := #[s, x], argTypes := #[t, t] })
    (base : Nat) (e : TypeId) (i : TypeInfo) (z : Value) (size bytes : Nat) (ht : P.underlying t = some (.slice e)) (hi : P.info? e = some i) (hz : i.zero = some z) (hsize : i.size = size) (hby : i.bytes = bytes) (hzs : z.cells.size = size) (hsz : 0 < size)
    (v : Value) (n : Nat) (xs : List Value) (hs : a.eval s = v) (hown : w.ownsRow base e size v n xs)
    (A : Option Addr) (m d : Nat) (ls : List Value) (hx : a.eval x = .slice A m d) (hl : ls.length = m * size) (hsrc : (A = none ∧ m = 0 ∧ d = 0) ∨ ∃ ad : Addr, A = some ad ∧ ∀ (j : Nat) (u : Value), ls[j]? = some u → w.cell? (ad.add j) = some u) (h1 : ∀ u ∈ ls, u.oneCell' = true)
    (k : Nat) (hk : n + m = k) (ys : List Value) (hy : xs ++ ls = ys) (h63 : k ≤ 1000000000) (hbytes : k * bytes ≤ 140737488355328) (hbase : base ≤ w.heap.size)
    (h : ∀ A' c' w', Hid (w'.ownsRow base e size (.slice A' k c') k ys) → Hid (w.grownBy w' v.ownBlock) → wpList P ops Q rest (a.put o.dst (.slice A' k c')) w') : wpList P ops Q (o :: rest) a w := by
  subst hk hy
  have shape : ∀ {w' : World} {v' : Value} {q : Nat} {ys : List Value}, w'.ownsRow base e size v' q ys → ∃ A' c', v' = .slice A' q c' := fun {w' v' q ys} o1 => by
    rcases o1.2 with ⟨e1, e2⟩ | ⟨g, cap, cur, e1, _⟩
    · exact ⟨none, 0, by rw [e1, e2]⟩
    · exact ⟨_, _, e1⟩
  rcases hsrc with ⟨rfl, rfl, rfl⟩ | ⟨g, rfl, hc⟩
  · have hls : ls = [] := List.eq_nil_of_length_eq_zero (by omega)
    subst hls
    refine wpList_append_own_none hgd s x t ho base _ i size ht hi v n xs hs hown hx ?_
    obtain ⟨A', c', rfl⟩ := shape hown
    have := h A' c' w (Lib.hid (by rw [Nat.add_zero, List.append_nil]; exact hown)) (Lib.hid (World.grownBy.refl w _))
    rw [Nat.add_zero] at this
    exact this
  · refine wpList_append_own_at w hgd s x t ho base _ i z size bytes ht hi hz hsize hby hzs hsz v n xs hs hown g m d ls hx hl hc h1 (by unfold maxLen; omega) hbytes hbase ?_
    intro v' w' o1 g1 _ _
    obtain ⟨A', c', rfl⟩ := shape o1
    exact h A' c' w' (Lib.hid o1) (Lib.hid g1)

/-- append onto a row of the call's own, whatever the source, nil too. -/
theorem wpList_append_any {P : Program} (w : World) {ops : Array Oper} {rest : List Oper} {o : Oper} {a : Act} {Q : Exit → Act → World → Prop} (hgd : o.guard = none) (s x : Operand) (t : TypeId)
    (ho : o.op = .call { callee := .builtin .append, args := #[s, x], argTypes := #[t, t] })
    (base : Nat) (e : TypeId) (i : TypeInfo) (z : Value) (size bytes : Nat) (ht : P.underlying t = some (.slice e)) (hi : P.info? e = some i) (hz : i.zero = some z) (hsize : i.size = size) (hby : i.bytes = bytes) (hzs : z.cells.size = size) (hsz : 0 < size)
    (v : Value) (n : Nat) (xs : List Value) (hs : a.eval s = v) (hown : w.ownsRow base e size v n xs)
    (A : Option Addr) (m d : Nat) (ls : List Value) (hx : a.eval x = .slice A m d) (hl : ls.length = m * size) (hsrc : (A = none ∧ m = 0 ∧ d = 0) ∨ ∃ g, A = some ⟨g, 0, none⟩ ∧ ∀ (j : Nat) (u : Value), ls[j]? = some u → w.cell? ⟨g, j, none⟩ = some u) (h1 : ∀ u ∈ ls, u.oneCell' = true)
    (k : Nat) (hk : n + m = k) (ys : List Value) (hy : xs ++ ls = ys) (h63 : k ≤ 1000000000) (hbytes : k * bytes ≤ 140737488355328) (hbase : base ≤ w.heap.size)
    (h : ∀ A' c' w', Hid (w'.ownsRow base e size (.slice A' k c') k ys) → Hid (w.grownBy w' v.ownBlock) → wpList P ops Q rest (a.put o.dst (.slice A' k c')) w') : wpList P ops Q (o :: rest) a w := by
  refine wpList_append_ad w hgd s x t ho base e i z size bytes ht hi hz hsize hby hzs hsz v n xs hs hown A m d ls hx hl ?_ h1 k hk ys hy h63 hbytes hbase h
  rcases hsrc with q | ⟨g, q, hc⟩
  · exact .inl q
  · refine .inr ⟨⟨g, 0, none⟩, q, fun j u hu => ?_⟩
    have := hc j u hu
    unfold Addr.add
    split
    · rename_i z0; subst z0; exact this
    · simpa using this

/-- Six stores make a block anew. -/
theorem six_stores (w : World) (b : Nat) (t : TypeId) (c0 c1 c2 c3 c4 c5 v0 v1 v2 v3 v4 v5 : Value) (h : w.heap[b]? = some (.cells #[c0, c1, c2, c3, c4, c5] t (0, 0))) :
    ((((((w.setCell ⟨b, 0, none⟩ v0).setCell ⟨b, 1, none⟩ v1).setCell ⟨b, 2, none⟩ v2).setCell ⟨b, 3, none⟩ v3).setCell ⟨b, 4, none⟩ v4).setCell ⟨b, 5, none⟩ v5).heap[b]? = some (.cells #[v0, v1, v2, v3, v4, v5] t (0, 0)) := by
  have h1 : (w.setCell ⟨b, 0, none⟩ v0).heap[b]? = some (.cells #[v0, c1, c2, c3, c4, c5] t (0, 0)) := heap_store w b 0 v0 _ t h
  have h2 : ((w.setCell ⟨b, 0, none⟩ v0).setCell ⟨b, 1, none⟩ v1).heap[b]? = some (.cells #[v0, v1, c2, c3, c4, c5] t (0, 0)) := heap_store _ b 1 v1 _ t h1
  have h3 : (((w.setCell ⟨b, 0, none⟩ v0).setCell ⟨b, 1, none⟩ v1).setCell ⟨b, 2, none⟩ v2).heap[b]? = some (.cells #[v0, v1, v2, c3, c4, c5] t (0, 0)) := heap_store _ b 2 v2 _ t h2
  have h4 : ((((w.setCell ⟨b, 0, none⟩ v0).setCell ⟨b, 1, none⟩ v1).setCell ⟨b, 2, none⟩ v2).setCell ⟨b, 3, none⟩ v3).heap[b]? = some (.cells #[v0, v1, v2, v3, c4, c5] t (0, 0)) := heap_store _ b 3 v3 _ t h3
  have h5 : (((((w.setCell ⟨b, 0, none⟩ v0).setCell ⟨b, 1, none⟩ v1).setCell ⟨b, 2, none⟩ v2).setCell ⟨b, 3, none⟩ v3).setCell ⟨b, 4, none⟩ v4).heap[b]? = some (.cells #[v0, v1, v2, v3, v4, c5] t (0, 0)) := heap_store _ b 4 v4 _ t h4
  exact heap_store _ b 5 v5 _ t h5

theorem six_other (w : World) (b : Nat) (v0 v1 v2 v3 v4 v5 : Value) (j : Nat) (hj : j ≠ b) :
    ((((((w.setCell ⟨b, 0, none⟩ v0).setCell ⟨b, 1, none⟩ v1).setCell ⟨b, 2, none⟩ v2).setCell ⟨b, 3, none⟩ v3).setCell ⟨b, 4, none⟩ v4).setCell ⟨b, 5, none⟩ v5).heap[j]? = w.heap[j]? := by
  rw [Below.heap_setCell _ ⟨b, 5, none⟩ _ j hj, Below.heap_setCell _ ⟨b, 4, none⟩ _ j hj, Below.heap_setCell _ ⟨b, 3, none⟩ _ j hj, Below.heap_setCell _ ⟨b, 2, none⟩ _ j hj, Below.heap_setCell _ ⟨b, 1, none⟩ _ j hj, Below.heap_setCell _ ⟨b, 0, none⟩ _ j hj]
theorem RD.looseSrc {w : World} {S : DS} {R : RM} (h : RD w S R) : (R.A = none ∧ S.loose.length = 0 ∧ R.d = 0) ∨ ∃ g, R.A = some ⟨g, 0, none⟩ ∧ ∀ (j : Nat) (u : Value), (rCells S.size S.loose)[j]? = some u → w.cell? ⟨g, j, none⟩ = some u := by
  rcases h.l with ⟨q1, q2, q3⟩ | ⟨g, q1, q2, q3, cs, q4, q5⟩
  · exact .inl ⟨q1, by rw [q3]; rfl, q2⟩
  · exact .inr ⟨g, q1, fun j u hu => (cell_of_row w g j _ _ _ q4).trans (q5.1 j u hu)⟩
/-- What turns blocks that hold a disk of the document's alone leaves its lists as they are. -/
theorem RD.boxed {w w' : World} {S : DS} {R : RM} (h : RD w S R) (k : ∀ (j : Nat) (cs : Array Value) (t : TypeId), w.heap[j]? = some (.cells cs t (0, 0)) → t ≠ 32 → w'.heap[j]? = w.heap[j]?) : RD w' S R := by
  obtain ⟨h2, h3, cs, h4, h5⟩ := h.f
  refine ⟨⟨h2, h3, cs, (k _ _ _ h4 (by decide)).trans h4, h5⟩, ?_, h.hN, h.hS, h.hA, h.hL⟩
  rcases h.l with q | ⟨g, q1, q2, q3, cs, q4, q5⟩
  · exact .inl q
  · exact .inr ⟨g, q1, q2, q3, cs, (k _ _ _ q4 (by decide)).trans q4, q5⟩
theorem RD.six {w : World} {S : DS} {R : RM} {b : Nat} {ds : Array Value} (h : RD w S R) (hb : w.heap[b]? = some (.cells ds 32 (0, 0))) (v0 v1 v2 v3 v4 v5 : Value) :
    RD ((((((w.setCell ⟨b, 0, none⟩ v0).setCell ⟨b, 1, none⟩ v1).setCell ⟨b, 2, none⟩ v2).setCell ⟨b, 3, none⟩ v3).setCell ⟨b, 4, none⟩ v4).setCell ⟨b, 5, none⟩ v5) S R :=
  h.boxed fun j cs t hj ht => six_other w b v0 v1 v2 v3 v4 v5 j (type_ne hj hb ht)
theorem below_six {w0 w : World} {B b : Nat} (h : Below B w0 w) (hb : B ≤ b) (v0 v1 v2 v3 v4 v5 : Value) :
    Below B w0 ((((((w.setCell ⟨b, 0, none⟩ v0).setCell ⟨b, 1, none⟩ v1).setCell ⟨b, 2, none⟩ v2).setCell ⟨b, 3, none⟩ v3).setCell ⟨b, 4, none⟩ v4).setCell ⟨b, 5, none⟩ v5) :=
  (((((h.setCell (p := ⟨b, 0, none⟩) hb v0).setCell (p := ⟨b, 1, none⟩) hb v1).setCell (p := ⟨b, 2, none⟩) hb v2).setCell (p := ⟨b, 3, none⟩) hb v3).setCell (p := ⟨b, 4, none⟩) hb v4).setCell (p := ⟨b, 5, none⟩) hb v5
theorem strikeS_keep (S : DS) (k : Nat) (F : Nat → Nat) : strikeS (keepS S k F) = { keepS S k F with armed := (strikeS S).armed, down := (strikeS S).down } := by
  unfold strikeS
  by_cases h0 : S.armed = 0
  · rw [if_pos (show (keepS S k F).armed = 0 from h0), if_pos h0]; rfl
  · rw [if_neg (show ¬ (keepS S k F).armed = 0 from h0), if_neg h0]
    by_cases h1 : S.armed = 1
    · rw [if_pos (show (keepS S k F).armed = 1 from h1), if_pos h1]
    · rw [if_neg (show ¬ (keepS S k F).armed = 1 from h1), if_neg h1]; rfl
theorem strikeI_down (S : DS) (h : S.down = false) : strikeI S = if (strikeS S).down = true then 4 else 0 := by
  by_cases h1 : S.armed = 1
  · have e : (strikeS S).down = true := by unfold strikeS; rw [if_neg (by omega), if_pos h1]
    rw [if_pos e]
    exact if_pos h1
  · have e : (strikeS S).down = false := by
      unfold strikeS
      by_cases h0 : S.armed = 0
      · rw [if_pos h0]; exact h
      · rw [if_neg h0, if_neg h1]; exact h
    rw [if_neg (by rw [e]; simp)]
    exact if_neg h1
def six (w : World) (b : Nat) (v0 v1 v2 v3 v4 v5 : Value) : World := (((((w.setCell ⟨b, 0, none⟩ v0).setCell ⟨b, 1, none⟩ v1).setCell ⟨b, 2, none⟩ v2).setCell ⟨b, 3, none⟩ v3).setCell ⟨b, 4, none⟩ v4).setCell ⟨b, 5, none⟩ v5
theorem refPut_no (at_ : Int) (n : Nat) (F : Nat → Nat) (w : World) (S : DS) (R : RM) (h : RD w S R) (hr : reachI S at_ ≠ 0 ∨ n ≠ S.size) (hn : n ≤ 1000000) :
    Calls Try.prog 23 #[.agg (RCells S R), .int .i64 at_, .string (strF F n)] w (RPost (putS S at_ n F) (putI S at_ n F) w) := by
  have hN := h.hN
  have hS := h.hS
  have eS : putS S at_ n F = S := if_pos hr
  rw [eS]
  have PE := Lib.hid (show ∀ c d : Array Value, ∀ er : Int, er = putI S at_ n F → RPost S (putI S at_ n F) w (.returned (.tuple #[.agg (RCells S R), .int .i64 er])) ((w.alloc (.cells c 32)).alloc (.cells d 32)) from fun c d er he => by
    have l := ((Below.refl w.heap.size w).alloc (Nat.le_refl _) (.cells c 32)).alloc (by simp) (.cells d 32)
    exact ⟨R, by rw [he], h.below l, l⟩)
  have hsz := strF_size F n
  clear h
  unfold RCells at PE ⊢
  by_cases hd : S.down = true
  · have e : putI S at_ n F = 4 := by
      have e : reachI S at_ = 4 := if_pos hd
      unfold putI; rw [if_pos (by rw [e]; omega), e]
    rw [e] at PE ⊢
    rw [hd] at PE ⊢
    clear hd hr eS e
    go_enter Try.func23, Try.ntmps23
    go_wp2
    exact bodyPost_ret (v := .tuple #[.agg #[.int .i64 (S.N : Int), .int .i64 (S.size : Int), .slice (some ⟨R.g, 0, none⟩) S.N R.c, .slice R.A S.loose.length R.d, .int .i64 (S.armed : Int), .bool true], .int .i64 4]) (by simp [results, Try.results23, go_sem]) rfl (PE.out _ _ _ rfl)
  · have hd2 : S.down = false := by simpa using hd
    by_cases hq : at_ < 0 ∨ (S.N : Int) ≤ at_
    · have e : putI S at_ n F = 2 := by
        have e : reachI S at_ = 2 := by unfold reachI; rw [if_neg hd, if_pos hq]
        unfold putI; rw [if_pos (by rw [e]; omega), e]
      rw [e] at PE ⊢
      rw [hd2] at PE ⊢
      clear hd hd2 hr eS e
      by_cases h1 : at_ < 0
      · clear hq
        go_enter Try.func23, Try.ntmps23
        go_wp2
        exact bodyPost_ret (v := .tuple #[.agg #[.int .i64 (S.N : Int), .int .i64 (S.size : Int), .slice (some ⟨R.g, 0, none⟩) S.N R.c, .slice R.A S.loose.length R.d, .int .i64 (S.armed : Int), .bool false], .int .i64 2]) (by simp [results, Try.results23, go_sem]) rfl (PE.out _ _ _ rfl)
      · have h2 : (S.N : Int) ≤ at_ := by omega
        clear hq
        go_enter Try.func23, Try.ntmps23
        go_wp2
        exact bodyPost_ret (v := .tuple #[.agg #[.int .i64 (S.N : Int), .int .i64 (S.size : Int), .slice (some ⟨R.g, 0, none⟩) S.N R.c, .slice R.A S.loose.length R.d, .int .i64 (S.armed : Int), .bool false], .int .i64 2]) (by simp [results, Try.results23, go_sem]) rfl (PE.out _ _ _ rfl)
    · have e0 : reachI S at_ = 0 := by unfold reachI; rw [if_neg hd, if_neg hq]
      have hne : n ≠ S.size := hr.resolve_left (fun z => z e0)
      have e : putI S at_ n F = 3 := by unfold putI; rw [if_neg (fun z => z e0), if_pos hne]
      have q : ((n : Int) != (S.size : Int)) = true := by rw [bne_iff_ne]; omega
      have g1 : ¬ at_ < 0 := by omega
      have g2 : decide ((S.N : Int) ≤ at_) = false := by simpa using (by omega : at_ < S.N)
      rw [e] at PE ⊢
      rw [hd2] at PE ⊢
      clear hd hd2 hr eS e e0 hne hq
      go_enter Try.func23, Try.ntmps23
      go_wp2
      exact bodyPost_ret (v := .tuple #[.agg #[.int .i64 (S.N : Int), .int .i64 (S.size : Int), .slice (some ⟨R.g, 0, none⟩) S.N R.c, .slice R.A S.loose.length R.d, .int .i64 (S.armed : Int), .bool false], .int .i64 3]) (by simp [results, Try.results23, go_sem]) rfl (PE.out _ _ _ rfl)

set_option maxRecDepth 100000 in
set_option maxHeartbeats 2000000 in
theorem refPut_ok (k : Nat) (F : Nat → Nat) (w : World) (S : DS) (R : RM) (h : RD w S R) (hk : k < S.N) (hd : S.down = false) (hL : S.loose.length < 1000000) :
    Calls Try.prog 23 #[.agg (RCells S R), .int .i64 k, .string (strF F S.size)] w (RPost (strikeS (keepS S k F)) (strikeI (keepS S k F)) w) := by
  have hN := h.hN
  have hS := h.hS
  have hsz := strF_size F S.size
  have l1 := ((Below.refl w.heap.size w).alloc (Nat.le_refl _) (.cells (RCells S R) 32)).alloc (by simp) (.cells #[.int .i64 0, .int .i64 0, .slice none 0 0, .slice none 0 0, .int .i64 0, .bool false] 32)
  have L1 := Lib.hid l1
  have HA := Lib.hid h.hA
  have HD := Lib.hid hd
  have H := Lib.hid h
  have dN : decide ((S.N : Int) ≤ (k : Int)) = false := by simpa using hk
  have dN2 : decide (S.N ≤ k) = false := by simpa using hk
  clear l1 h
  have AC := Lib.hid (fun W => refAct_any S R W HA.out HD.out)
  unfold RCells at L1 AC ⊢
  rw [hd] at L1 AC ⊢
  clear hd
  go_enter Try.func23, Try.ntmps23
  go_wp2_with fail
  refine (AC.out _).mono ?_
  rintro e W2 ⟨rfl, l2⟩
  rw [strikeS_N, strikeS_size, strikeS_loose]
  have B0 : W2.heap[w.heap.size]? = some (.cells #[.int .i64 (S.N : Int), .int .i64 (S.size : Int), .slice (some ⟨R.g, 0, none⟩) S.N R.c, .slice R.A S.loose.length R.d, .int .i64 (S.armed : Int), .bool false] 32 (0, 0)) := by
    rw [l2.block w.heap.size (by simp; omega), Below.heap_alloc _ _ _ (by simp)]
    exact heap_alloc_new w _
  have B1 : W2.heap[w.heap.size + 1]? = some (.cells #[.int .i64 0, .int .i64 0, .slice none 0 0, .slice none 0 0, .int .i64 0, .bool false] 32 (0, 0)) := by
    rw [l2.block (w.heap.size + 1) (by simp)]
    have := heap_alloc_new (w.alloc (.cells #[.int .i64 (S.N : Int), .int .i64 (S.size : Int), .slice (some ⟨R.g, 0, none⟩) S.N R.c, .slice R.A S.loose.length R.d, .int .i64 (S.armed : Int), .bool false] 32)) (.cells #[.int .i64 0, .int .i64 0, .slice none 0 0, .slice none 0 0, .int .i64 0, .bool false] 32)
    rw [World.size_alloc] at this
    exact this
  have y0 : W2.cell? ⟨w.heap.size, 0, none⟩ = some (.int .i64 (S.N : Int)) := cell_of_row W2 _ 0 _ _ _ B0
  have y1 : W2.cell? ⟨w.heap.size, 1, none⟩ = some (.int .i64 (S.size : Int)) := cell_of_row W2 _ 1 _ _ _ B0
  have y2 : W2.cell? ⟨w.heap.size, 2, none⟩ = some (.slice (some ⟨R.g, 0, none⟩) S.N R.c) := cell_of_row W2 _ 2 _ _ _ B0
  have y3 : W2.cell? ⟨w.heap.size, 3, none⟩ = some (.slice R.A S.loose.length R.d) := cell_of_row W2 _ 3 _ _ _ B0
  have y4 : W2.cell? ⟨w.heap.size, 4, none⟩ = some (.int .i64 (S.armed : Int)) := cell_of_row W2 _ 4 _ _ _ B0
  have y5 : W2.cell? ⟨w.heap.size, 5, none⟩ = some (.bool false) := cell_of_row W2 _ 5 _ _ _ B0
  have fz : ∀ i, W2.frozen? ⟨w.heap.size, i, none⟩ = false := fun i => by simp [World.frozen?, B0]
  have f0 := fz 0
  have f1 := fz 1
  have f2 := fz 2
  have f3 := fz 3
  have f4 := fz 4
  have f5 := fz 5
  have L2 := Lib.hid (L1.out.trans (l2.mono (by simp; omega)))
  have HB0 := Lib.hid B0
  have HB1 := Lib.hid B1
  clear fz l2 B0 B1
  go_upto_region 8 with (fail)
  have B3 := six_stores W2 w.heap.size _ _ _ _ _ _ _ (.int .i64 (S.N : Int)) (.int .i64 (S.size : Int)) (.slice (some ⟨R.g, 0, none⟩) S.N R.c) (.slice R.A S.loose.length R.d) (.int .i64 ((strikeS S).armed : Int)) (.bool (strikeS S).down) HB0.out
  have l3 := (((((L2.out.setCell (p := ⟨w.heap.size, 0, none⟩) (Nat.le_refl _) (.int .i64 (S.N : Int))).setCell (p := ⟨w.heap.size, 1, none⟩) (Nat.le_refl _) (.int .i64 (S.size : Int))).setCell (p := ⟨w.heap.size, 2, none⟩) (Nat.le_refl _) (.slice (some ⟨R.g, 0, none⟩) S.N R.c)).setCell (p := ⟨w.heap.size, 3, none⟩) (Nat.le_refl _) (.slice R.A S.loose.length R.d)).setCell (p := ⟨w.heap.size, 4, none⟩) (Nat.le_refl _) (.int .i64 ((strikeS S).armed : Int))).setCell (p := ⟨w.heap.size, 5, none⟩) (Nat.le_refl _) (.bool (strikeS S).down)
  have o3 : ∀ j, j ≠ w.heap.size → _ = W2.heap[j]? := fun j hj => six_other W2 w.heap.size (.int .i64 (S.N : Int)) (.int .i64 (S.size : Int)) (.slice (some ⟨R.g, 0, none⟩) S.N R.c) (.slice R.A S.loose.length R.d) (.int .i64 ((strikeS S).armed : Int)) (.bool (strikeS S).down) j hj
  generalize (((((W2.setCell ⟨w.heap.size, 0, none⟩ (.int .i64 (S.N : Int))).setCell ⟨w.heap.size, 1, none⟩ (.int .i64 (S.size : Int))).setCell ⟨w.heap.size, 2, none⟩ (.slice (some ⟨R.g, 0, none⟩) S.N R.c)).setCell ⟨w.heap.size, 3, none⟩ (.slice R.A S.loose.length R.d)).setCell ⟨w.heap.size, 4, none⟩ (.int .i64 ((strikeS S).armed : Int))).setCell ⟨w.heap.size, 5, none⟩ (.bool (strikeS S).down) = W3 at B3 l3 o3 ⊢
  have C3 := (o3 (w.heap.size + 1) (by omega)).trans HB1.out
  obtain ⟨a, ha⟩ : ∃ a, a = (strikeS S).armed := ⟨_, rfl⟩
  obtain ⟨dn, hdn⟩ : ∃ dn, dn = (strikeS S).down := ⟨_, rfl⟩
  rw [← ha, ← hdn] at B3 ⊢
  have HAD := Lib.hid (And.intro ha hdn)
  clear ha hdn o3 y0 y1 y2 y3 y4 y5 f0 f1 f2 f3 f4 f5 L2 HB0 HB1
  have z3 : w.heap.size + 1 < W3.heap.size := (Array.getElem?_eq_some_iff.1 C3).1
  have y3 : (W3.alloc (.cells #[] 71)).cell? ⟨w.heap.size, 3, none⟩ = some (.slice R.A S.loose.length R.d) := (World.cell?_of_block (w := W3) (a := ⟨w.heap.size, 3, none⟩) (Below.heap_alloc _ _ _ (by show w.heap.size < _; omega))).trans (cell_of_row W3 _ 3 _ _ _ B3)
  have RD3 := Lib.hid (H.out.below l3)
  have RD4 := Lib.hid (RD3.out.below ((Below.refl W3.heap.size W3).alloc (Nat.le_refl _) (.cells #[] 71)))
  have HO := Lib.hid (World.ownsRow_lit (e := 71) (size := 2) W3 #[] 0 (Nat.le_refl _) (by unfold maxLen; omega) rfl)
  obtain ⟨i0, hi0, hz0, hz1, hz2⟩ := info_parts rwinfo
  have HI := Lib.hid (And.intro hi0 (And.intro hz0 (And.intro hz1 hz2)))
  have HB3 := Lib.hid B3
  have HC3 := Lib.hid C3
  have L3 := Lib.hid l3
  clear hi0 hz0 hz1 hz2 B3 C3 l3
  go_wp2_with (at_builtin; refine wpList_append_any _ rfl (.tmp 28) (.tmp 30) 30 rfl W3.heap.size 71 i0 (.agg #[.int .i64 0, .string ⟨#[]⟩]) 2 24 Try.underlying30 HI.out.1 HI.out.2.1 HI.out.2.2.1 HI.out.2.2.2 rfl (by omega) _ 0 [] rfl HO.out _ _ _ (rCells S.size S.loose) rfl (rCells_len _ _) RD4.out.looseSrc (rCells_one _ _) S.loose.length (Nat.zero_add _) (rCells S.size S.loose) rfl (by omega) (by omega) (by simp) ?_)
  intro A5 c5 W5 o5 g5
  have l5 : Below W3.heap.size W3 W5 := ((Below.refl W3.heap.size W3).alloc (Nat.le_refl _) (.cells #[] 71)).grown g5.out (by simp) (by rintro j ⟨⟩; exact Nat.le_refl _)
  have L5 := Lib.hid l5
  have O5 := Lib.hid (o5.out.alloc (.cells #[.int .i64 (k : Int), .string (strF F S.size)] 71))
  have CX := Lib.hid (show ∀ (j : Nat) (u : Value), [Value.int .i64 (k : Int), .string (strF F S.size)][j]? = some u → (W5.alloc (.cells #[.int .i64 (k : Int), .string (strF F S.size)] 71)).cell? ⟨W5.heap.size, j, none⟩ = some u from fun j u hu => by
    rw [cell_of_row _ W5.heap.size j _ _ _ (heap_alloc_new W5 _)]
    match j, hu with
    | 0, hu => exact hu
    | 1, hu => exact hu)
  have LX := Lib.hid (show ∀ u ∈ [Value.int .i64 (k : Int), .string (strF F S.size)], u.oneCell' = true from fun u hu => by
    simp at hu
    rcases hu with rfl | rfl <;> rfl)
  clear l5 o5 g5
  go_wp2_with (at_builtin; refine wpList_append_any _ rfl (.tmp 31) (.tmp 35) 30 rfl W3.heap.size 71 i0 (.agg #[.int .i64 0, .string ⟨#[]⟩]) 2 24 Try.underlying30 HI.out.1 HI.out.2.1 HI.out.2.2.1 HI.out.2.2.2 rfl (by omega) _ S.loose.length (rCells S.size S.loose) rfl O5.out _ _ _ [.int .i64 (k : Int), .string (strF F S.size)] rfl rfl (.inr ⟨W5.heap.size, rfl, CX.out⟩) LX.out (S.loose.length + 1) rfl (rCells S.size (S.loose ++ [(k, F)])) (rCells_snoc S.size (k, F) S.loose).symm (by omega) (by omega) (by simp; have := L5.out.size; omega) ?_)
  intro A6 c6 W6 o6 g6
  have l6 : Below W3.heap.size W3 W6 := (L5.out.alloc L5.out.size (.cells #[.int .i64 (k : Int), .string (strF F S.size)] 71)).grown g6.out (by simp; have := L5.out.size; omega) (fun j hj => (O5.out.lt j hj).1)
  have B6 := (l6.block w.heap.size (by omega)).trans HB3.out
  have C6 := (l6.block (w.heap.size + 1) z3).trans HC3.out
  have y3' : W6.cell? ⟨w.heap.size, 3, none⟩ = some (.slice R.A S.loose.length R.d) := cell_of_row W6 _ 3 _ _ _ B6
  have f3' : W6.frozen? ⟨w.heap.size, 3, none⟩ = false := by simp [World.frozen?, B6]
  have L6 := Lib.hid l6
  have O6 := Lib.hid o6.out
  have HB6 := Lib.hid B6
  have HC6 := Lib.hid C6
  clear l6 o6 g6 B6 C6 CX LX O5 L5 y3 HO RD4
  go_upto_region 9 with (fail)
  have B7 : (W6.setCell ⟨w.heap.size, 3, none⟩ (.slice A6 (S.loose.length + 1) c6)).heap[w.heap.size]? = some (.cells #[.int .i64 (S.N : Int), .int .i64 (S.size : Int), .slice (some ⟨R.g, 0, none⟩) S.N R.c, .slice A6 (S.loose.length + 1) c6, .int .i64 (a : Int), .bool dn] 32 (0, 0)) := heap_store W6 w.heap.size 3 _ _ _ HB6.out
  have C7 := (Below.heap_setCell W6 ⟨w.heap.size, 3, none⟩ (.slice A6 (S.loose.length + 1) c6) (w.heap.size + 1) (by show w.heap.size + 1 ≠ w.heap.size; omega)).trans HC6.out
  have l7 : Below w.heap.size w (W6.setCell ⟨w.heap.size, 3, none⟩ (.slice A6 (S.loose.length + 1) c6)) := (L3.out.trans (L6.out.mono (by omega))).setCell (p := ⟨w.heap.size, 3, none⟩) (Nat.le_refl _) _
  have o7 : (W6.setCell ⟨w.heap.size, 3, none⟩ (.slice A6 (S.loose.length + 1) c6)).ownsRow W3.heap.size 71 2 (.slice A6 (S.loose.length + 1) c6) (S.loose.length + 1) (rCells S.size (S.loose ++ [(k, F)])) := ownsRow_setCell_below O6.out (by show w.heap.size < W3.heap.size; omega) _
  generalize W6.setCell ⟨w.heap.size, 3, none⟩ (.slice A6 (S.loose.length + 1) c6) = W7 at B7 C7 l7 o7 ⊢
  have y0 : W7.cell? ⟨w.heap.size, 0, none⟩ = some (.int .i64 (S.N : Int)) := cell_of_row W7 _ 0 _ _ _ B7
  have y1 : W7.cell? ⟨w.heap.size, 1, none⟩ = some (.int .i64 (S.size : Int)) := cell_of_row W7 _ 1 _ _ _ B7
  have y2 : W7.cell? ⟨w.heap.size, 2, none⟩ = some (.slice (some ⟨R.g, 0, none⟩) S.N R.c) := cell_of_row W7 _ 2 _ _ _ B7
  have y3 : W7.cell? ⟨w.heap.size, 3, none⟩ = some (.slice A6 (S.loose.length + 1) c6) := cell_of_row W7 _ 3 _ _ _ B7
  have y4 : W7.cell? ⟨w.heap.size, 4, none⟩ = some (.int .i64 (a : Int)) := cell_of_row W7 _ 4 _ _ _ B7
  have y5 : W7.cell? ⟨w.heap.size, 5, none⟩ = some (.bool dn) := cell_of_row W7 _ 5 _ _ _ B7
  have u0 : W7.cell? ⟨w.heap.size + 1, 0, none⟩ = some (.int .i64 0) := cell_of_row W7 _ 0 _ _ _ C7
  have u1 : W7.cell? ⟨w.heap.size + 1, 1, none⟩ = some (.int .i64 0) := cell_of_row W7 _ 1 _ _ _ C7
  have u2 : W7.cell? ⟨w.heap.size + 1, 2, none⟩ = some (.slice none 0 0) := cell_of_row W7 _ 2 _ _ _ C7
  have u3 : W7.cell? ⟨w.heap.size + 1, 3, none⟩ = some (.slice none 0 0) := cell_of_row W7 _ 3 _ _ _ C7
  have u4 : W7.cell? ⟨w.heap.size + 1, 4, none⟩ = some (.int .i64 0) := cell_of_row W7 _ 4 _ _ _ C7
  have u5 : W7.cell? ⟨w.heap.size + 1, 5, none⟩ = some (.bool false) := cell_of_row W7 _ 5 _ _ _ C7
  have fz : ∀ i, W7.frozen? ⟨w.heap.size + 1, i, none⟩ = false := fun i => by simp [World.frozen?, C7]
  have f0 := fz 0
  have f1 := fz 1
  have f2 := fz 2
  have f3 := fz 3
  have f4 := fz 4
  have f5 := fz 5
  have rd : RD W7 (strikeS (keepS S k F)) { g := R.g, c := R.c, A := A6, d := c6 } := by
    have fF := (RD3.out.below L6.out).f
    obtain ⟨e1, e2, cs, e3, e4⟩ := (H.out.below l7).f
    rw [strikeS_keep]
    refine ⟨⟨e1, e2, cs, e3, e4⟩, ?_, hN, hS, ?_, by show (S.loose ++ [(k, F)]).length ≤ _; simp; omega⟩
    · rcases o7.2 with ⟨_, q⟩ | ⟨g, cap, cur, q1, q2, q3, q4, q5, q6, q7⟩
      · exact absurd q (by omega)
      · injection q1 with r1 r2 r3
        subst r1 r3
        unfold maxLen at q5
        refine .inr ⟨g, rfl, by show (S.loose ++ [(k, F)]).length ≤ c6; simp; omega, by show c6 ≤ _; omega, cur, q3, fun j u hu => ?_, fun x hx => ?_⟩
        · have hu' : (rCells S.size (S.loose ++ [(k, F)]))[j]? = some u := hu
          rw [← q7] at hu'
          have hj : j < (S.loose.length + 1) * 2 := by
            have := (List.getElem?_eq_some_iff.1 hu').1
            rw [List.length_take] at this
            omega
          rw [List.getElem?_take_of_lt hj] at hu'
          simpa using hu'
        · rcases List.mem_append.1 (show x ∈ S.loose ++ [(k, F)] from hx) with q | q
          · rcases H.out.l with ⟨_, _, q0⟩ | ⟨_, _, _, _, _, _, _, q0⟩
            · rw [q0] at q; cases q
            · exact q0 x q
          · rw [List.mem_singleton.1 q]; exact hk
    · have := H.out.strike.hA
      exact this
  have er : strikeI (keepS S k F) = if dn = true then 4 else 0 := by
    rw [HAD.out.2]
    have := strikeI_down (keepS S k F) HD.out
    rw [this, strikeS_keep]
  have PF := Lib.hid (show RPost (strikeS (keepS S k F)) (strikeI (keepS S k F)) w (.returned (.tuple #[.agg #[.int .i64 (S.N : Int), .int .i64 (S.size : Int), .slice (some ⟨R.g, 0, none⟩) S.N R.c, .slice A6 (S.loose.length + 1) c6, .int .i64 (a : Int), .bool dn], .int .i64 (if dn = true then 4 else 0)])) (six W7 (w.heap.size + 1) (.int .i64 (S.N : Int)) (.int .i64 (S.size : Int)) (.slice (some ⟨R.g, 0, none⟩) S.N R.c) (.slice A6 (S.loose.length + 1) c6) (.int .i64 (a : Int)) (.bool dn)) by
    refine ⟨{ g := R.g, c := R.c, A := A6, d := c6 }, ?_, rd.six C7 (.int .i64 (S.N : Int)) (.int .i64 (S.size : Int)) (.slice (some ⟨R.g, 0, none⟩) S.N R.c) (.slice A6 (S.loose.length + 1) c6) (.int .i64 (a : Int)) (.bool dn), below_six l7 (by omega) _ _ _ _ _ _⟩
    rw [er, strikeS_keep, HAD.out.1, HAD.out.2]
    unfold RCells
    simp [keepS])
  clear fz rd er B7 C7 l7 o7 RD3 L6 O6 HB6 HC6 HB3 HC3 L3 HAD H HD HA AC L1 y3' f3'
  rcases dn with _ | _
  · go_wp2
    exact bodyPost_ret (v := .tuple #[.agg #[.int .i64 (S.N : Int), .int .i64 (S.size : Int), .slice (some ⟨R.g, 0, none⟩) S.N R.c, .slice A6 (S.loose.length + 1) c6, .int .i64 (a : Int), .bool false], .int .i64 0]) (by simp [results, Try.results23, go_sem, u0, u1, u2, u3, u4, u5]) rfl PF.out
  · go_wp2
    exact bodyPost_ret (v := .tuple #[.agg #[.int .i64 (S.N : Int), .int .i64 (S.size : Int), .slice (some ⟨R.g, 0, none⟩) S.N R.c, .slice A6 (S.loose.length + 1) c6, .int .i64 (a : Int), .bool true], .int .i64 4]) (by simp [results, Try.results23, go_sem, u0, u1, u2, u3, u4, u5]) rfl PF.out
end Go.Proofs.Ytpajedofffnhdaa
