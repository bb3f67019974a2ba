/- unpacked: the loop's invariant. -/
import Derived.Test.YthpfaaindkkpcaaBUnpack
namespace Go.Proofs.Ythpfaaindkkpcaa
open Go.RowKit Go.Maps
set_option linter.unusedVariables false
set_option linter.unusedSimpArgs false

theorem pls_bounds (len : Int) : ∀ (k : Nat) (bf : Int) (xs : List Nat) (ps : List Int) (r : List Nat), plsL len k bf xs = some (ps, r) → ps.length = k ∧ ∀ p ∈ ps, bf < p ∧ p < len := by
  intro k
  induction k with
  | zero =>
    intro bf xs ps r h
    rw [plsL] at h
    injection h with h
    injection h with h1 h2
    subst h1
    exact ⟨rfl, fun p hp => by cases hp⟩
  | succ k ih =>
    intro bf xs ps r h
    rw [plsL] at h
    cases hab : abL bf (len - 1) xs with
    | none => rw [hab] at h; cases h
    | some q =>
      obtain ⟨p, r1⟩ := q
      rw [hab] at h
      dsimp only at h
      rw [Option.map_eq_some_iff] at h
      obtain ⟨⟨qs, r2⟩, h1, h2⟩ := h
      injection h2 with h2 h3
      dsimp only at h2
      subst h2
      obtain ⟨a1, a2⟩ := ih _ _ _ _ h1
      obtain ⟨b1, b2, _⟩ := ab_le hab
      refine ⟨by simp [a1], fun x hx => ?_⟩
      rw [List.mem_cons] at hx
      rcases hx with rfl | hx
      · exact ⟨b1, by omega⟩
      · have := a2 x hx; exact ⟨by omega, this.2⟩
theorem post_bounds {row a l : Int} {ps : List Int} {xs r : List Nat} (h : postL row xs = some ((a, l, ps), r)) : row < a ∧ a ≤ 9007199254740992 ∧ 0 < l ∧ l ≤ 1048576 ∧ (∀ p ∈ ps, -1 < p ∧ p < l) ∧ ps.length ≤ 1048576 := by
  unfold postL at h
  cases ha : abL row 9007199254740992 xs with
  | none => rw [ha] at h; cases h
  | some q =>
    obtain ⟨a', r1⟩ := q
    rw [ha] at h
    dsimp only at h
    cases hl : abL 0 1048576 r1 with
    | none => rw [hl] at h; cases h
    | some q =>
      obtain ⟨l', r2⟩ := q
      rw [hl] at h
      dsimp only at h
      cases hn : abL 0 l' r2 with
      | none => rw [hn] at h; cases h
      | some q =>
        obtain ⟨n, r3⟩ := q
        rw [hn] at h
        dsimp only at h
        split at h
        · rw [Option.map_eq_some_iff] at h
          obtain ⟨⟨qs, r4⟩, h1, h2⟩ := h
          injection h2 with h2 h3
          injection h2 with h2 h4
          injection h4 with h4 h5
          dsimp only at h5
          subst h2 h4 h5
          obtain ⟨a1, a2⟩ := pls_bounds _ _ _ _ _ _ h1
          obtain ⟨b1, b2, _⟩ := ab_le ha
          obtain ⟨c1, c2, _⟩ := ab_le hl
          obtain ⟨d1, d2, _⟩ := ab_le hn
          exact ⟨b1, b2, c1, c2, a2, by omega⟩
        · cases h
theorem post_yes {row a l : Int} {ps : List Int} {xs r : List Nat} (h : postL row xs = some ((a, l, ps), r)) {Bx : Nat} (h1 : -1 ≤ row) (h2 : row ≤ 9007199254740992) (w : World) (hr : Rd w Bx xs) :
    Calls Try.prog 23 #[.pointer (some ⟨Bx, 0, none⟩), .int .i64 row] w fun e w' => ∃ g, e = .returned (.agg #[.int .i64 a, .int .i64 l, .slice (some ⟨g, 0, none⟩) ps.length ps.length]) ∧ w.heap.size ≤ g ∧ w'.rowIs g 3 ps.length (fun i => .int .i64 (ps.getD i 0)) ∧ Rd w' Bx r ∧ Kp Bx w w' :=
  (posting_any Bx row h1 h2 xs w hr).mono fun e w' z => by
    rcases z with ⟨a', l', ps', r', g, z1, z2⟩ | ⟨z1, _⟩
    · rw [h] at z1
      injection z1 with z1
      injection z1 with z1 z3
      injection z1 with z1 z4
      injection z4 with z4 z5
      subst z1 z3 z4 z5
      exact ⟨g, z2⟩
    · rw [h] at z1; cases z1
theorem post_no {row : Int} {xs : List Nat} (h : postL row xs = none) {Bx : Nat} (h1 : -1 ≤ row) (h2 : row ≤ 9007199254740992) (w : World) (hr : Rd w Bx xs) :
    Calls Try.prog 23 #[.pointer (some ⟨Bx, 0, none⟩), .int .i64 row] w fun e w' => e = .panicked [faultP] ∧ Kp Bx w w' :=
  (posting_any Bx row h1 h2 xs w hr).mono fun e w' z => by
    rcases z with ⟨a', l', ps', r', g, z1, z2⟩ | ⟨_, z2⟩
    · rw [h] at z1; cases z1
    · exact z2
/-- The plain data of a posting in memory. -/
def PsM (base : Nat) (q : Pst) (p : Int × Int × List Int) : Prop := q.row = p.1 ∧ q.len = p.2.1 ∧ q.n = p.2.2.length ∧ q.F = (fun i => p.2.2.getD i 0) ∧ ∃ g, q.A = some ⟨g, 0, none⟩ ∧ base ≤ g
/-- Where the reading stands: k postings read, ys left. -/
structure UInv (w wr : World) (k : Nat) (Q : Nat → Pst) (v : Value) (ls : List (Int × Int × List Int)) (ys : List Nat) : Prop where
  le : LE wr w.heap.size v 0
  rd : Rd wr (w.heap.size + 1 + 1) ys
  own : OwnQ 48 wr (w.heap.size + 3) v k Q
  ms : ∀ i, i < k → PsM (w.heap.size + 3) (Q i) (ls.getD i (0, 0, []))
  len : ls.length = k
  bel : Below w.heap.size w wr
  sz : w.heap.size + 3 ≤ wr.heap.size
theorem UInv.kp {w wr W : World} {k : Nat} {Q : Nat → Pst} {v : Value} {ls : List (Int × Int × List Int)} {ys zs : List Nat} (h : UInv w wr k Q v ls ys) (hk : Kp (w.heap.size + 1 + 1) wr W) (hr : Rd W (w.heap.size + 1 + 1) zs) : UInv w W k Q v ls zs := by
  refine ⟨h.le.keep hk (by omega), hr, ⟨?_, fun i hi => ?_⟩, h.ms, h.len, h.bel.trans (hk.1.mono (by omega)), Nat.le_trans h.sz hk.1.size⟩
  · obtain ⟨hl, h0 | ⟨g, cap, cur, hv, hg, hh, r⟩⟩ := h.own.1
    · exact ⟨hl, .inl h0⟩
    · exact ⟨hl, .inr ⟨g, cap, cur, hv, hg, (hk.2 g (by omega) (Array.getElem?_eq_some_iff.1 hh).1).trans hh, r⟩⟩
  · obtain ⟨a1, a2⟩ := h.own.2 i hi
    obtain ⟨_, _, _, _, g, hA, hg⟩ := h.ms i hi
    refine ⟨a1.keep fun b o e hn => ?_, a2⟩
    rw [hA] at e
    injection e with e
    injection e with e1 e2
    subst e1
    exact hk.2 g (by omega) (a1.blk g 0 (by rw [hA]) hn)
theorem UInv.below {w wr W : World} {k : Nat} {Q : Nat → Pst} {v : Value} {ls : List (Int × Int × List Int)} {ys : List Nat} (h : UInv w wr k Q v ls ys) (hb : Below wr.heap.size wr W) : UInv w W k Q v ls ys :=
  h.kp ⟨hb.mono (by have := h.sz; omega), fun g _ g2 => hb.block g g2⟩ (h.rd.keep hb)
theorem ownQ_from {T : TypeId} {w w' : World} {base : Nat} {v : Value} {n : Nat} {Q : Nat → Pst} (h : OwnQ T w base v n Q) (hm : ∀ i, i < n → ∃ g, (Q i).A = some ⟨g, 0, none⟩ ∧ base ≤ g) (hb : ∀ g, base ≤ g → g < w.heap.size → w'.heap[g]? = w.heap[g]?) : OwnQ T w' base v n Q := by
  refine ⟨?_, fun i hi => ?_⟩
  · obtain ⟨hl, h0 | ⟨g, cap, cur, hv, hg, hh, r⟩⟩ := h.1
    · exact ⟨hl, .inl h0⟩
    · exact ⟨hl, .inr ⟨g, cap, cur, hv, hg, (hb g hg (Array.getElem?_eq_some_iff.1 hh).1).trans hh, r⟩⟩
  · obtain ⟨a1, a2⟩ := h.2 i hi
    obtain ⟨g, hA, hg⟩ := hm i hi
    refine ⟨a1.keep fun b o e hn => ?_, a2⟩
    rw [hA] at e
    injection e with e
    injection e with e1 e2
    subst e1
    exact hb g hg (a1.blk g 0 (by rw [hA]) hn)
/-- A posting put behind. -/
theorem UInv.push {w W w' : World} {k : Nat} {Q : Nat → Pst} {v v' : Value} {ls : List (Int × Int × List Int)} {ys : List Nat} {p : Pst} {q : Int × Int × List Int} (h : UInv w W k Q v ls ys)
    (ho : OwnQ 48 w' (w.heap.size + 3) v' (k + 1) (putQ Q k p)) (hg : W.grownBy w' v.ownBlock) (hq : PsM (w.heap.size + 3) p q) : UInv w (w'.setCell ⟨w.heap.size, 0, none⟩ v') (k + 1) (putQ Q k p) v' (ls ++ [q]) ys := by
  have hne : ∀ j, j < w.heap.size + 3 → some j ≠ v.ownBlock := fun j hj e => by have := (h.own.1.lt j e.symm).1; omega
  have hs := h.sz
  have hkeep : ∀ j, j < w.heap.size + 3 → w'.heap[j]? = W.heap[j]? := fun j hj => hg.block j (by omega) (hne j hj)
  have hkeep2 : ∀ j, j < w.heap.size + 3 → j ≠ w.heap.size → (w'.setCell ⟨w.heap.size, 0, none⟩ v').heap[j]? = W.heap[j]? := fun j hj hn => (Below.heap_setCell _ _ _ _ hn).trans (hkeep j hj)
  have e1 : w'.heap[w.heap.size]? = _ := (hkeep w.heap.size (by omega)).trans h.le.1
  refine ⟨⟨?_, (hkeep2 _ (by omega) (by omega)).trans h.le.2⟩, ?_, ?_, fun i hi => ?_, by simp [h.len], ?_, ?_⟩
  · simp [World.setCell, Array.getElem?_modify, e1]
  · obtain ⟨A, c, hh, hl, hr⟩ := h.rd
    refine ⟨A, c, (hkeep2 _ (by omega) (by omega)).trans hh, hl, hr.1, hr.2.1, fun hn => ?_⟩
    obtain ⟨b, o, rfl, hb, hc⟩ := hr.2.2 hn
    have hbL : b ≠ w.heap.size := by
      rintro rfl
      obtain ⟨x, r, rfl⟩ := List.exists_cons_of_ne_nil hn
      have h1 := hc 0 x rfl
      obtain ⟨A2, c2, hv, _⟩ := ownQ_psts h.own
      have h2 := cell_of_row W w.heap.size (o + 0) #[v] _ _ h.le.1
      rw [h1, hv] at h2
      match o, h2 with
      | 0, h2 => simp at h2
      | o + 1, h2 => simp at h2
    exact ⟨b, o, rfl, hb, fun i x hx => (World.cell?_of_block (w := W) (a := ⟨b, o + i, none⟩) (hkeep2 b (by omega) hbL)).trans (hc i x hx)⟩
  · refine ownQ_from ho (fun i hi => ?_) (fun g g1 _ => Below.heap_setCell _ _ _ _ (by show g ≠ w.heap.size; omega))
    by_cases e : i = k
    · subst e; rw [putQ_at]; exact hq.2.2.2.2
    · rw [putQ_ne e]; exact (h.ms i (by omega)).2.2.2.2
  · by_cases e : i = k
    · subst e
      rw [putQ_at]
      have : (ls ++ [q]).getD i (0, 0, []) = q := by rw [← h.len]; simp [List.getD_eq_getElem?_getD]
      rw [this]; exact hq
    · rw [putQ_ne e]
      have : (ls ++ [q]).getD i (0, 0, []) = ls.getD i (0, 0, []) := by
        simp only [List.getD_eq_getElem?_getD]
        rw [List.getElem?_append_left (by rw [h.len]; omega)]
      rw [this]; exact h.ms i (by omega)
  · exact (h.bel.grown hg (by omega) (fun j hj => by have := (h.own.1.lt j hj).1; omega)).setCell (p := ⟨w.heap.size, 0, none⟩) (Nat.le_refl _) _
  · have := hg.size; simp [World.setCell]; omega
end Go.Proofs.Ythpfaaindkkpcaa
