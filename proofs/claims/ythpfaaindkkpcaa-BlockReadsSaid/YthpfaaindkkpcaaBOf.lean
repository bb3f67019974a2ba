/- the law's of, Light: rows of postings in memory of their own. -/
import Derived.Test.YthpfaaindkkpcaaBOne
namespace Go.Proofs.Ythpfaaindkkpcaa
open Go.RowKit Go.Maps
set_option linter.unusedVariables false
set_option linter.unusedSimpArgs false

/-- Two postings of the same plain data. -/
def SameP (p q : Pst) : Prop := p.row = q.row ∧ p.len = q.len ∧ p.n = q.n ∧ p.F = q.F
def pcells (p : Pst) : List Value := [.int .i64 p.row, .int .i64 p.len, .slice p.A p.n p.c]
def cellsQ (Q : Nat → Pst) : Nat → List Value
  | 0 => []
  | k + 1 => cellsQ Q k ++ pcells (Q k)
theorem cellsQ_len (Q : Nat → Pst) (k : Nat) : (cellsQ Q k).length = k * 3 := by
  induction k with
  | zero => rfl
  | succ k ih => rw [cellsQ, List.length_append, ih]; simp [pcells]; omega
theorem cellsQ_get (Q : Nat → Pst) (j : Nat) (hj : j < 3) : ∀ k i, i < k → (cellsQ Q k)[i * 3 + j]? = (pcells (Q i))[j]? := by
  intro k
  induction k with
  | zero => intro i hi; omega
  | succ k ih =>
    intro i hi
    rw [cellsQ]
    by_cases e : i = k
    · subst e
      rw [List.getElem?_append_right (by rw [cellsQ_len]; omega), cellsQ_len]
      congr 1; omega
    · rw [List.getElem?_append_left (by rw [cellsQ_len]; omega)]
      exact ih i (by omega)
theorem cellsQ_congr {Q R : Nat → Pst} {k : Nat} (h : ∀ i, i < k → Q i = R i) : cellsQ Q k = cellsQ R k := by
  induction k with
  | zero => rfl
  | succ k ih => rw [cellsQ, cellsQ, ih (fun i hi => h i (by omega)), h k (by omega)]
/-- A row of postings of the call's own; each one's places can be read and lie elsewhere. -/
def OwnQ (T : TypeId) (w : World) (base : Nat) (v : Value) (n : Nat) (Q : Nat → Pst) : Prop :=
  w.ownsRow base T 3 v n (cellsQ Q n) ∧ ∀ i, i < n → Ints w (Q i).A (Q i).n (Q i).F ∧ In64 (Q i).row ∧ In64 (Q i).len ∧ ((Q i).A = none → (Q i).c = 0) ∧ (0 < (Q i).n → ∀ b o, (Q i).A = some ⟨b, o, none⟩ → some b ≠ v.ownBlock)
theorem ownQ_nil (T : TypeId) (w : World) (base : Nat) (Q : Nat → Pst) : OwnQ T w base (.slice none 0 0) 0 Q := ⟨World.ownsRow_nil _ _ _ _, fun i hi => absurd hi (by omega)⟩
theorem ownQ_kept {T : TypeId} {w w' : World} {base : Nat} {v : Value} {n : Nat} {Q : Nat → Pst} (h : OwnQ T w base v n Q) (hb : Below w.heap.size w w') : OwnQ T w' base v n Q := by
  refine ⟨?_, fun i hi => ⟨(h.2 i hi).1.below hb (Nat.le_refl _), (h.2 i hi).2⟩⟩
  obtain ⟨hl, h0 | ⟨g, cap, cur, hv, hg, hh, r⟩⟩ := h.1
  · exact ⟨hl, .inl h0⟩
  · exact ⟨hl, .inr ⟨g, cap, cur, hv, hg, (hb.block g (Array.getElem?_eq_some_iff.1 hh).1).trans hh, r⟩⟩
theorem ownQ_psts {T : TypeId} {w : World} {base : Nat} {v : Value} {n : Nat} {Q : Nat → Pst} (h : OwnQ T w base v n Q) : ∃ A c, v = .slice A n c ∧ Psts w A n Q ∧ (A = none → c = 0) := by
  obtain ⟨h1, h2⟩ := h
  have h1' := h1
  obtain ⟨hl, ⟨hv, h0⟩ | ⟨g, cap, cur, hv, hg, hh, r⟩⟩ := h1
  · subst h0
    exact ⟨none, 0, hv, ⟨by omega, fun i hi => absurd hi (by omega), fun hn => absurd hn (by omega)⟩, fun _ => rfl⟩
  · subst hv
    refine ⟨_, cap, rfl, ⟨by have := r.1; have := r.2.1; unfold maxLen at *; omega, fun i hi => ?_, fun hn => ⟨g, 0, rfl, fun i hi => ?_⟩⟩, fun e => by cases e⟩
    · obtain ⟨a, b, c, d, _⟩ := h2 i hi
      exact ⟨a, b, c, d⟩
    · have hc : ∀ j, j < 3 → w.cell? ⟨g, 0 + i * 3 + j, none⟩ = (pcells (Q i))[j]? := fun j hj => by
        have := World.ownsRow.cellAt (w := w) (base := base) (e := T) (size := 3) h1' (i * 3 + j) (by omega)
        rw [show 0 + i * 3 + j = i * 3 + j by omega, ← cellsQ_get Q j hj n i hi]
        exact this
      exact ⟨hc 0 (by omega), hc 1 (by omega), hc 2 (by omega)⟩
def putQ (Q : Nat → Pst) (k : Nat) (p : Pst) (i : Nat) : Pst := if i = k then p else Q i
theorem putQ_at (Q : Nat → Pst) (k : Nat) (p : Pst) : putQ Q k p k = p := if_pos rfl
theorem putQ_ne {Q : Nat → Pst} {k i : Nat} {p : Pst} (h : i ≠ k) : putQ Q k p i = Q i := if_neg h
theorem cells_put (Q : Nat → Pst) (k : Nat) (p : Pst) : cellsQ (putQ Q k p) (k + 1) = cellsQ Q k ++ pcells p := by
  rw [cellsQ, putQ_at, cellsQ_congr fun i hi => putQ_ne (by omega)]
theorem cell_three_new (w : World) (x y z : Value) (t : TypeId) : ∀ j u, [x, y, z][j]? = some u → (w.alloc (.cells #[x, y, z] t)).cell? ((⟨w.heap.size, 0, none⟩ : Addr).add j) = some u := by
  intro j u hj
  match j, hj with
  | 0, hj => simp at hj; subst hj; simp [Addr.add]
  | 1, hj => simp at hj; subst hj; simp [Addr.add]
  | 2, hj => simp at hj; subst hj; simp [Addr.add]
/-- One posting is put behind a row of the call's own. -/
theorem wpList_pushQ {P : Program} (T : TypeId) (w : World) {ops : Array Oper} {rest : List Oper} {o : Oper} {a : Act} {Q' : Exit → Act → World → Prop} (hgd : o.guard = none) (s x : Operand) (t : TypeId)
    (ho : o.op = .call { callee := .builtin .append, args := #[s, x], argTypes := #[t, t] }) (ht : P.underlying t = some (.slice T))
    (hinfo : (P.info? T).map (fun i => (i.zero, i.size, i.bytes)) = some (some (.agg #[.int .i64 0, .int .i64 0, .slice none 0 0]), 3, 40))
    (base : Nat) (v : Value) (k : Nat) (Q : Nat → Pst) (hs : a.eval s = v) (hown : OwnQ T w base v k Q)
    (p : Pst) (hx : a.eval x = .slice (some ⟨w.heap.size, 0, none⟩) 1 1) (hp : Ints w p.A p.n p.F ∧ In64 p.row ∧ In64 p.len ∧ (p.A = none → p.c = 0) ∧ (0 < p.n → ∀ b o, p.A = some ⟨b, o, none⟩ → some b ≠ v.ownBlock)) (hsmall : k ≤ 1000000) (hbase : base ≤ w.heap.size)
    (h : ∀ v' w', OwnQ T w' base v' (k + 1) (putQ Q k p) → w.grownBy w' v.ownBlock → wpList P ops Q' rest (a.put o.dst v') w') :
    wpList P ops Q' (o :: rest) a (w.alloc (.cells #[.int .i64 p.row, .int .i64 p.len, .slice p.A p.n p.c] T)) := by
  obtain ⟨i0, hi, hz0, hz1, hz2⟩ := info_parts hinfo
  have hal : Below w.heap.size w (w.alloc (.cells #[.int .i64 p.row, .int .i64 p.len, .slice p.A p.n p.c] T)) := (Below.refl _ _).alloc (Nat.le_refl _) _
  have hown2 := ownQ_kept hown hal
  refine wpList_append_own_at _ hgd s x t ho base T i0 (.agg #[.int .i64 0, .int .i64 0, .slice none 0 0]) 3 40 ht hi hz0 hz1 hz2 rfl (by decide) v k (cellsQ Q k) hs hown2.1 ⟨w.heap.size, 0, none⟩ 1 1 (pcells p) hx rfl (cell_three_new _ _ _ _ _) (fun u hu => by simp [pcells] at hu; rcases hu with rfl | rfl | rfl <;> rfl) (by unfold maxLen; omega) (by omega) (by simp; omega) ?_
  intro v' w' h1 h2 _ h4
  have hg : w.grownBy w' v.ownBlock := ⟨h2.os, h2.tape, h2.output, Nat.le_trans (by simp) h2.size, fun j hj hne => (h2.block j (by simp; omega) hne).trans (Below.heap_alloc _ _ _ hj)⟩
  have hkeep : ∀ (q : Pst), Ints w q.A q.n q.F → (0 < q.n → ∀ b o, q.A = some ⟨b, o, none⟩ → some b ≠ v.ownBlock) → Ints w' q.A q.n q.F ∧ (0 < q.n → ∀ b o, q.A = some ⟨b, o, none⟩ → some b ≠ v'.ownBlock) := fun q hq hne => by
    refine ⟨hq.keep fun b o e hn => hg.block b (hq.blk b o e hn) (hne hn b o e), fun hn b o e => ?_⟩
    rcases h4 with h4 | h4
    · rw [h4]; exact hne hn b o e
    · rw [h4]
      have := hq.blk b o e hn
      intro e2
      injection e2 with e2
      simp at e2
      omega
  refine h v' w' ⟨by rw [cells_put]; exact h1, fun i hi => ?_⟩ hg
  by_cases e : i = k
  · subst e
    rw [putQ_at]
    obtain ⟨a1, a2, a3, a4, a5⟩ := hp
    obtain ⟨b1, b2⟩ := hkeep p a1 a5
    exact ⟨b1, a2, a3, a4, b2⟩
  · rw [putQ_ne e]
    obtain ⟨a1, a2, a3, a4, a5⟩ := hown.2 i (by omega)
    obtain ⟨b1, b2⟩ := hkeep (Q i) a1 a5
    exact ⟨b1, a2, a3, a4, b2⟩
theorem pstInfo : (Try.prog.info? 48).map (fun i => (i.zero, i.size, i.bytes)) = some (some (.agg #[.int .i64 0, .int .i64 0, .slice none 0 0]), 3, 40) := by kernel_rfl
set_option maxHeartbeats 8000000 in
theorem of_any (A : Option Addr) (n c : Nat) (P : Nat → Pst) (w : World) (hI : Psts w A n P) (hn : n ≤ 70) (h100 : ∀ i, i < n → (P i).n ≤ 100) :
    Calls Try.prog 12 #[.slice A n c] w fun e w' => ∃ A' c' Q, e = .returned (.slice A' n c') ∧ Psts w' A' n Q ∧ (∀ i, i < n → SameP (Q i) (P i)) ∧ Below w.heap.size w w' := by
  have HI := Lib.hid hI
  have H100 := Lib.hid h100
  clear hI h100
  go_enter Try.func12, Try.ntmps12
  go_wp2
  go_loopw [3, 4] (fun v i wr => ∃ k : Nat, k ≤ n ∧ i = .int .i64 k ∧ ∃ Q, OwnQ 48 wr w.heap.size v k Q ∧ (∀ i, i < k → SameP (Q i) (P i)) ∧ Below w.heap.size w wr) (fun _ i _ => n - (intOf i).toNat)
  case atStart => exact ⟨0, by omega, rfl, P, ownQ_nil _ _ _ _, fun i hi => absurd hi (by omega), Below.refl _ _⟩
  case round =>
    obtain ⟨k, hk, rfl, Q, ho, hs, hnx⟩ := hrel
    have HO := Lib.hid ho
    have HX := Lib.hid hnx
    have HS := Lib.hid hs
    have hws := hnx.size
    clear ho hs
    by_cases hlt : k < n
    · obtain ⟨b, o, hA, hbl, hc⟩ := HI.out.at_ (by omega)
      subst hA
      have hk3 := hc k hlt
      have q0 := kcell hnx hbl hk3.c0
      have q1 := kcell hnx hbl hk3.c1
      have q2 := kcell hnx hbl hk3.c2
      have hp := HI.out.2.1 k hlt
      have hpn := H100.out k hlt
      have HC := Lib.hid (one_new (P k).row (P k).len (P k).A (P k).n (P k).c (P k).F wr (hp.1.below hnx (Nat.le_refl _)) hp.2.2.2 (by omega))
      have HIn := Lib.hid hp.2
      have HPk : Hid (∀ i, i < k + 1 → i ≠ k → i < k) := Lib.hid fun i h1 h2 => by omega
      clear hc hk3 hnx hp
      generalize hpk : P k = p at *
      have HPe := Lib.hid hpk
      clear hpk
      obtain ⟨pr, pl, pA, pn, pc, pF⟩ := p
      dsimp only at *
      go_wp2_with (first
        | (go_at_call 20; (with_reducible refine HC.out.mono ?_); rintro e w1 ⟨B, d, rfl, i1, m1, l1, f1⟩; have hs1 := l1.size; have L1 := Lib.hid l1; have I1 := Lib.hid i1; have M1 := Lib.hid m1; have F1 := Lib.hid f1; clear i1 m1 l1 f1)
        | (at_builtin; refine wpList_pushQ 48 w1 rfl _ _ 23 rfl Try.underlying23 pstInfo w.heap.size u3 k Q rfl (ownQ_kept HO.out L1.out) ⟨pr, pl, B, pn, d, pF⟩ rfl ⟨I1.out, HIn.out.1, HIn.out.2.1, M1.out, fun hn b2 o2 e e2 => by have h1 := F1.out b2 o2 e; have h2 := (HO.out.1.lt b2 e2.symm).2; omega⟩ (by omega) (by omega) ?_; intro v' w2 ho2 hg2; have HO2 := Lib.hid ho2; have HG2 := Lib.hid hg2; clear ho2 hg2))
      refine ⟨⟨k + 1, by omega, by go_num, _, HO2.out, fun i hi => ?_, (HX.out.trans (L1.out.mono hws)).grown HG2.out (by omega) (fun j hj => (HO.out.1.lt j hj).1)⟩, by simp [intOf]; omega⟩
      by_cases e : i = k
      · subst e; rw [putQ_at, HPe.out]; exact ⟨rfl, rfl, rfl, rfl⟩
      · rw [putQ_ne e]; exact HS.out i (HPk.out i hi e)
    · obtain rfl : n = k := by omega
      obtain ⟨A', c', rfl, hps, hnil⟩ := ownQ_psts HO.out
      have HP := Lib.hid hps
      clear hps hnil
      go_wp2
      go_ret
      exact ⟨A', c', Q, rfl, HP.out, HS.out, HX.out⟩
def LightP (n : Nat) (P : Nat → Pst) : Prop := n ≤ 70 ∧ ∀ i, i < n → (P i).n ≤ 100
instance (n : Nat) (P : Nat → Pst) : Decidable (LightP n P) := by unfold LightP; infer_instance
set_option maxHeartbeats 8000000 in
theorem light_any (A : Option Addr) (n c : Nat) (P : Nat → Pst) (w : World) (hI : Psts w A n P) :
    Calls Try.prog 10 #[.slice A n c] w fun e w' => e = .returned (.bool (decide (LightP n P))) ∧ Below w.heap.size w w' := by
  have hn := hI.1
  by_cases h70 : n ≤ 70
  · have HI := Lib.hid hI
    clear hI
    go_enter Try.func10, Try.ntmps10
    go_wp2
    go_loopw [3] (fun i wr => ∃ k : Nat, k ≤ n ∧ i = .int .i64 k ∧ (∀ i, i < k → (P i).n ≤ 100) ∧ Below w.heap.size w wr) (fun i _ => n - (intOf i).toNat)
    case atStart => exact ⟨0, by omega, rfl, fun i hi => absurd hi (by omega), Below.refl _ _⟩
    case round =>
      obtain ⟨k, hk, rfl, hs, hnx⟩ := hrel
      have HX := Lib.hid hnx
      have HS := Lib.hid hs
      clear hs
      by_cases hlt : k < n
      · obtain ⟨b, o, hA, hbl, hc⟩ := HI.out.at_ (by omega)
        subst hA
        have q2 := kcell hnx hbl (hc k hlt).c2
        have hpn := (HI.out.2.1 k hlt).1.1
        have HE : Hid (¬ (P k).n ≤ 100 → decide (LightP n P) = false) := Lib.hid fun q => decide_eq_false fun z => q (z.2 k hlt)
        have HS2 : Hid ((P k).n ≤ 100 → ∀ i, i < k + 1 → (P i).n ≤ 100) := Lib.hid fun q i hi => by
          by_cases e : i = k
          · subst e; exact q
          · exact HS.out i (by omega)
        clear hc hnx
        generalize P k = p at *
        obtain ⟨pr, pl, pA, pn, pc, pF⟩ := p
        dsimp only at *
        by_cases h1 : pn ≤ 100
        · have HS3 := Lib.hid (HS2.out h1)
          go_wp2
          exact ⟨⟨k + 1, by omega, by go_num, HS3.out, HX.out⟩, by simp [intOf]; omega⟩
        · have HE2 := Lib.hid (HE.out h1)
          have k1 : decide ((100 : Int) < pn) = true := decide_eq_true (by omega)
          go_wp2
          go_ret
          exact ⟨ret_b HE2.out.symm, HX.out⟩
      · have HE : Hid (decide (LightP n P) = true) := Lib.hid (decide_eq_true ⟨h70, fun i hi => HS.out i (by omega)⟩)
        go_wp2
        go_ret
        exact ⟨ret_b HE.out.symm, HX.out⟩
  · have HE : Hid (decide (LightP n P) = false) := Lib.hid (decide_eq_false fun z => h70 z.1)
    clear hI
    go_enter Try.func10, Try.ntmps10
    go_wp2
    go_ret
    exact ⟨ret_b HE.out.symm, Below.refl _ _⟩
end Go.Proofs.Ythpfaaindkkpcaa
