/- Merged texts: LRows, LTold, FBack, FTurn, FTornPlain, FRefRead, FTurned, FTornDefs, DLight, DState, LSecP, LMach, LCont, LKeepY, LAgP, LWhP. -/
import Derived.Test.YtdbfmllcapikkaaLad
/- The document's groups while a law gathers them. -/
namespace Go.Proofs.Ytdbfmllcapikkaa
open Go.RowKit
set_option linter.unusedVariables false
set_option linter.unusedSimpArgs false

theorem own_blockeq {W W' : World} {base e size n : Nat} {v : Value} {xs : List Value} (h : W.ownsRow base e size v n xs) (k : ∀ (q : Nat) (cs : Array Value), v.ownBlock = some q → W.heap[q]? = some (.cells cs e (0, 0)) → W'.heap[q]? = some (.cells cs e (0, 0))) : W'.ownsRow base e size v n xs := by
  refine ⟨h.1, ?_⟩
  rcases h.2 with h | ⟨g, cap, cur, h1, h2, h3, h4⟩
  · exact .inl h
  · exact .inr ⟨g, cap, cur, h1, h2, k g cur (by rw [h1]; rfl) h3, h4⟩
theorem own_typed {W : World} {base e size n q : Nat} {v : Value} {xs : List Value} (h : W.ownsRow base e size v n xs) (hq : v.ownBlock = some q) : base ≤ q ∧ ∃ cs, W.heap[q]? = some (.cells cs e (0, 0)) := by
  rcases h.2 with ⟨h, _⟩ | ⟨g, cap, cur, h1, h2, h3, h4⟩
  · rw [h] at hq; cases hq
  · rw [h1] at hq
    injection hq with hq
    subst hq
    exact ⟨h2, cur, h3⟩
theorem own_same {W : World} {base e size n : Nat} {v : Value} {xs ys : List Value} (h : W.ownsRow base e size v n xs) (k : W.ownsRow base e size v n ys) : xs = ys := by
  rcases h.2 with ⟨h1, h2⟩ | ⟨g, cap, cur, h1, _, h3, _, _, _, h7⟩
  · have a := h.1
    have b := k.1
    rw [h2, Nat.zero_mul] at a b
    rw [List.eq_nil_of_length_eq_zero a, List.eq_nil_of_length_eq_zero b]
  · rcases k.2 with ⟨k1, _⟩ | ⟨g', cap', cur', k1, _, k3, _, _, _, k7⟩
    · rw [h1] at k1; cases k1
    · rw [h1] at k1
      injection k1 with k1
      injection k1 with k1
      injection k1 with k1
      subst k1
      rw [h3] at k3
      injection k3 with k3
      injection k3 with k3
      subst k3
      rw [← h7, k7]
/-- Groups that are whole, and the one that is not; X: the blocks of those that are whole. -/
def GBP (n0 : Nat) (gs : List (List Dc)) (g : List Dc) (X : Nat → Prop) (vG vg : Value) (vs : List Value) (W : World) : Prop :=
  W.ownsRow n0 45 1 vG gs.length vs ∧ (∀ (j : Nat) (u : Value) (l : List Dc), vs[j]? = some u → gs[j]? = some l → RD X W u l) ∧ W.ownsRow n0 47 2 vg g.length (dcCells g) ∧
    (∀ b, X b → n0 ≤ b ∧ (∃ cs, W.heap[b]? = some (.cells cs 47 (0, 0))) ∧ some b ≠ vg.ownBlock) ∧ gs.length ≤ 1000000 ∧ g.length ≤ 1000000
def GB (n0 : Nat) (gs : List (List Dc)) (g : List Dc) (vG vg : Value) (W : World) : Prop := ∃ X vs, GBP n0 gs g X vG vg vs W
theorem GB.nil (n0 : Nat) (W : World) : GB n0 [] [] (.slice none 0 0) (.slice none 0 0) W :=
  ⟨fun _ => False, [], World.ownsRow_nil _ _ _ _, fun j u l a => by simp at a, World.ownsRow_nil _ _ _ _, fun b h => h.elim, by simp, by simp⟩
/-- What keeps blocks of rows keeps them. -/
theorem GBP.kept {n0 : Nat} {gs : List (List Dc)} {g : List Dc} {X : Nat → Prop} {vG vg : Value} {vs : List Value} {W W' : World} (h : GBP n0 gs g X vG vg vs W)
    (k1 : ∀ (q : Nat) (cs : Array Value), W.heap[q]? = some (.cells cs 45 (0, 0)) → W'.heap[q]? = some (.cells cs 45 (0, 0)))
    (k2 : ∀ (q : Nat) (cs : Array Value), W.heap[q]? = some (.cells cs 47 (0, 0)) → W'.heap[q]? = some (.cells cs 47 (0, 0))) : GBP n0 gs g X vG vg vs W' := by
  obtain ⟨h1, h2, h3, h4, h5, h6⟩ := h
  refine ⟨own_blockeq h1 fun q cs _ e => k1 q cs e, fun j u l a b => (h2 j u l a b).keep (KeepX.heap fun b hb => ?_) fun _ x => x, own_blockeq h3 fun q cs _ e => k2 q cs e, fun b hb => ⟨(h4 b hb).1, ?_, (h4 b hb).2.2⟩, h5, h6⟩
  · obtain ⟨cs, e⟩ := (h4 b hb).2.1
    rw [e, k2 b cs e]
  · obtain ⟨cs, e⟩ := (h4 b hb).2.1
    exact ⟨cs, k2 b cs e⟩
theorem GB.kept {n0 : Nat} {gs : List (List Dc)} {g : List Dc} {vG vg : Value} {W W' : World} (h : GB n0 gs g vG vg W)
    (k1 : ∀ (q : Nat) (cs : Array Value), W.heap[q]? = some (.cells cs 45 (0, 0)) → W'.heap[q]? = some (.cells cs 45 (0, 0)))
    (k2 : ∀ (q : Nat) (cs : Array Value), W.heap[q]? = some (.cells cs 47 (0, 0)) → W'.heap[q]? = some (.cells cs 47 (0, 0))) : GB n0 gs g vG vg W' := by
  obtain ⟨X, vs, h⟩ := h
  exact ⟨X, vs, h.kept k1 k2⟩
theorem GB.below {n0 : Nat} {gs : List (List Dc)} {g : List Dc} {vG vg : Value} {W W' : World} (h : GB n0 gs g vG vg W) (l : Below W.heap.size W W') : GB n0 gs g vG vg W' :=
  h.kept (fun q cs e => (l.block q (Array.getElem?_eq_some_iff.1 e).1).trans e) (fun q cs e => (l.block q (Array.getElem?_eq_some_iff.1 e).1).trans e)
theorem GB.keepT {n0 b : Nat} {gs : List (List Dc)} {g : List Dc} {vG vg : Value} {W W' : World} (h : GB n0 gs g vG vg W) (hb : ∃ cs, W.heap[b]? = some (.cells cs 85 (0, 0))) (l : KeepT b W W') : GB n0 gs g vG vg W' := by
  obtain ⟨ds, hb⟩ := hb
  exact h.kept (fun q cs e => l q cs _ e (type_ne e hb (by decide)) (by decide) (by decide) (by decide)) (fun q cs e => l q cs _ e (type_ne e hb (by decide)) (by decide) (by decide) (by decide))
theorem GB.push {n0 : Nat} {gs : List (List Dc)} {g : List Dc} {vG vg v2 : Value} {W W' : World} {x : Dc} (h : GB n0 gs g vG vg W) (hg : g.length < 1000000)
    (hown : W'.ownsRow n0 47 2 v2 (g.length + 1) (dcCells g ++ [.int .i64 x.1, .string x.2])) (hgr : W.grownBy W' vg.ownBlock) (hat : v2.ownBlock = vg.ownBlock ∨ v2.ownBlock = some W.heap.size) : GB n0 gs (g ++ [x]) vG v2 W' := by
  obtain ⟨X, vs, h1, h2, h3, h4, h5, h6⟩ := h
  have lt : ∀ {q : Nat} {o : Obj}, W.heap[q]? = some o → q < W.heap.size := fun e => (Array.getElem?_eq_some_iff.1 e).1
  refine ⟨X, vs, own_blockeq h1 fun q cs hq e => (hgr.block q (lt e) fun e2 => ?_).trans e, fun j u l a b => (h2 j u l a b).keep (KeepX.heap fun b hb => ?_) fun _ x => x, by rw [dcCells_snoc, List.length_append]; exact hown, fun b hb => ⟨(h4 b hb).1, ?_, fun e2 => ?_⟩, h5, by simp; omega⟩
  · obtain ⟨_, ds, hd⟩ := own_typed h3 e2.symm
    exact type_ne e hd (by decide) rfl
  · obtain ⟨cs, e⟩ := (h4 b hb).2.1
    exact hgr.block b (lt e) (h4 b hb).2.2
  · obtain ⟨cs, e⟩ := (h4 b hb).2.1
    exact ⟨cs, (hgr.block b (lt e) (h4 b hb).2.2).trans e⟩
  · rcases hat with q | q
    · exact (h4 b hb).2.2 (e2.trans q)
    · rw [q] at e2
      injection e2 with e2
      obtain ⟨cs, e⟩ := (h4 b hb).2.1
      have := lt e
      omega
theorem RD.own {n0 : Nat} {W : World} {v : Value} {l : List Dc} (h : W.ownsRow n0 47 2 v l.length (dcCells l)) (hl : l.length ≤ 1000000) : RD (fun b => some b = v.ownBlock) W v l := by
  have h0 := h
  rcases h.2 with ⟨rfl, e⟩ | ⟨g, cap, cur, rfl, _⟩
  · exact ⟨none, 0, by rw [e], hl, fun h => absurd h (by omega)⟩
  · refine ⟨some ⟨g, 0, none⟩, cap, rfl, hl, fun _ => ⟨g, 0, rfl, rfl, fun j x hx => ?_⟩⟩
    have hj : j < l.length := (List.getElem?_eq_some_iff.1 hx).1
    obtain ⟨a1, a2⟩ := dcCells_at hx
    have d : ∀ j, j < l.length * 2 → W.cell? ⟨g, j, none⟩ = (dcCells l)[j]? := fun j hj => World.ownsRow.cellAt (w := W) (base := n0) (e := 47) (size := 2) h0 j hj
    rw [Nat.zero_add]
    exact ⟨(d _ (by omega)).trans a1, (d _ (by omega)).trans a2⟩
theorem GB.close {n0 : Nat} {gs : List (List Dc)} {g : List Dc} {vG vg v2 : Value} {W W' : World} (h : GB n0 gs g vG vg W) (hgs : gs.length < 1000000)
    (hown : ∀ vs, W.ownsRow n0 45 1 vG gs.length vs → W'.ownsRow n0 45 1 v2 (gs.length + 1) (vs ++ [vg])) (hgr : W.grownBy W' vG.ownBlock) : GB n0 (gs ++ [g]) [] v2 (.slice none 0 0) W' := by
  obtain ⟨X, vs, h1, h2, h3, h4, h5, h6⟩ := h
  have lt : ∀ {q : Nat} {o : Obj}, W.heap[q]? = some o → q < W.heap.size := fun e => (Array.getElem?_eq_some_iff.1 e).1
  have kc : ∀ (q : Nat) (cs : Array Value), W.heap[q]? = some (.cells cs 47 (0, 0)) → W'.heap[q]? = some (.cells cs 47 (0, 0)) := fun q cs e => (hgr.block q (lt e) fun e2 => by
    obtain ⟨_, ds, hd⟩ := own_typed h1 e2.symm
    exact type_ne e hd (by decide) rfl).trans e
  have hlen : vs.length = gs.length := by have := h1.1; omega
  have hX : ∀ b, (X b ∨ some b = vg.ownBlock) → n0 ≤ b ∧ ∃ cs, W.heap[b]? = some (.cells cs 47 (0, 0)) := fun b hb => by
    rcases hb with hb | hb
    · exact ⟨(h4 b hb).1, (h4 b hb).2.1⟩
    · exact own_typed h3 hb.symm
  have hk : KeepX (fun b => X b ∨ some b = vg.ownBlock) W W' := KeepX.heap fun b hb => by
    obtain ⟨_, cs, e⟩ := hX b hb
    rw [e, kc b cs e]
  refine ⟨fun b => X b ∨ some b = vg.ownBlock, vs ++ [vg], by rw [List.length_append]; exact hown vs h1, fun j u l a b => ?_, World.ownsRow_nil _ _ _ _, fun b hb => ⟨(hX b hb).1, ?_, by simp [Value.ownBlock]⟩, by simp; omega, by simp⟩
  · by_cases hj : j < gs.length
    · rw [List.getElem?_append_left (by omega)] at a
      rw [List.getElem?_append_left hj] at b
      exact ((h2 j u l a b).keep (X' := fun b => X b ∨ some b = vg.ownBlock) (fun b o v hb hv => hv) fun _ x => .inl x).keep hk fun _ x => x
    · rw [List.getElem?_append_right (by omega)] at a
      rw [List.getElem?_append_right (by omega)] at b
      match hq : j - gs.length with
      | 0 =>
        rw [show j - vs.length = 0 by omega] at a
        rw [hq] at b
        simp at a b
        subst a b
        exact ((RD.own h3 h6).keep (X' := fun b => X b ∨ some b = vg.ownBlock) (fun b o v hb hv => hv) fun _ x => .inr x).keep hk fun _ x => x
      | q + 1 => rw [hq] at b; simp at b
  · obtain ⟨_, cs, e⟩ := hX b hb
    exact ⟨cs, kc b cs e⟩
theorem GB.gd {n0 : Nat} {gs : List (List Dc)} {g : List Dc} {vG vg : Value} {W : World} (h : GB n0 gs g vG vg W) : ∃ X, GD X W vG gs := by
  obtain ⟨X, vs, h1, h2, h3, h4, h5, h6⟩ := h
  have h0 := h1
  have hlen : vs.length = gs.length := by have := h1.1; omega
  refine ⟨X, ?_⟩
  rcases h1.2 with ⟨rfl, e⟩ | ⟨q, cap, cur, rfl, _⟩
  · exact ⟨none, 0, vs, by rw [e], hlen, h5, fun h => absurd h (by omega), h2⟩
  · exact ⟨some ⟨q, 0, none⟩, cap, vs, rfl, hlen, h5, fun _ => ⟨q, 0, rfl, fun j u hu => by
      rw [Nat.zero_add, ← hu]
      exact World.ownsRow.cellAt (w := W) (base := n0) (e := 45) (size := 1) h0 j (by have := (List.getElem?_eq_some_iff.1 hu).1; omega)⟩, h2⟩
theorem GB.len {n0 : Nat} {gs : List (List Dc)} {g : List Dc} {vG vg : Value} {W : World} (h : GB n0 gs g vG vg W) : (∃ A c, vG = .slice A gs.length c) ∧ (∃ A c, vg = .slice A g.length c) ∧ gs.length ≤ 1000000 ∧ g.length ≤ 1000000 := by
  obtain ⟨X, vs, h1, h2, h3, h4, h5, h6⟩ := h
  exact ⟨own_sl h1, own_sl h3, h5, h6⟩
theorem GB.own {n0 : Nat} {gs : List (List Dc)} {g : List Dc} {vG vg : Value} {W : World} (h : GB n0 gs g vG vg W) : (∃ vs, W.ownsRow n0 45 1 vG gs.length vs) ∧ W.ownsRow n0 47 2 vg g.length (dcCells g) := by
  obtain ⟨X, vs, h1, h2, h3, h4, h5, h6⟩ := h
  exact ⟨⟨vs, h1⟩, h3⟩
/-- The group that is not whole is let go. -/
theorem GB.drop {n0 : Nat} {gs : List (List Dc)} {g : List Dc} {vG vg : Value} {W : World} (h : GB n0 gs g vG vg W) : GB n0 gs [] vG (.slice none 0 0) W := by
  obtain ⟨X, vs, h1, h2, h3, h4, h5, h6⟩ := h
  exact ⟨X, vs, h1, h2, World.ownsRow_nil _ _ _ _, fun b hb => ⟨(h4 b hb).1, (h4 b hb).2.1, by simp [Value.ownBlock]⟩, h5, by simp⟩
theorem GB.one {n0 : Nat} {gs : List (List Dc)} {g : List Dc} {vG vg : Value} {W : World} (h : GB n0 gs g vG vg W) {vs : List Value} (ho : W.ownsRow n0 45 1 vG gs.length vs) : ∀ u ∈ vs, u.oneCell' = true := fun u hu => by
  obtain ⟨X, vs', h1, h2, _⟩ := h
  obtain rfl : vs = vs' := own_same ho h1
  obtain ⟨j, hj, rfl⟩ := List.mem_iff_getElem.1 hu
  have hl := h1.1
  obtain ⟨A, c, e, _⟩ := h2 j _ _ (List.getElem?_eq_getElem hj) (List.getElem?_eq_getElem (by omega))
  rw [e]
  rfl
theorem infoDc : (Try.prog.info? 47).map (fun i => (i.zero, i.size, i.bytes)) = some (some (.agg #[.int .i64 0, .string ByteArray.empty]), 2, 24) := by kernel_rfl
theorem infoDcs : (Try.prog.info? 45).map (fun i => (i.zero, i.size, i.bytes)) = some (some (.slice none 0 0), 1, 24) := by kernel_rfl
/-- append of one of the document's changes, as a step of a region that draws its order. -/
theorem step_append_dc {P : Program} {ops : Array Oper} {o : Oper} {a : Act} {w : World} {K : Act → World → Prop} {Q : Exit → Act → World → Prop} {E : Prop} (hw : Region.wanted o (yielded ops a.tmps) = true) (s x : Operand) (t : TypeId)
    (ho : o.op = .call { callee := .builtin .append, args := #[s, x], argTypes := #[t, t] }) (ht : P.underlying t = some (.slice 47))
    (hinfo : (P.info? 47).map (fun i => (i.zero, i.size, i.bytes)) = some (some (.agg #[.int .i64 0, .string ByteArray.empty]), 2, 24))
    (base : Nat) (v : Value) (n : Nat) (xs : List Value) (hs : a.eval s = v) (hown : w.ownsRow base 47 2 v n xs) (ad : Addr) (p q : Value) (hx : a.eval x = .slice (some ad) 1 1) (hp : p.oneCell' = true) (hq : q.oneCell' = true)
    (hnews : ∀ (j : Nat) (u : Value), [p, q][j]? = some u → w.cell? (ad.add j) = some u) (hsmall : n ≤ 1000000) (hbase : base ≤ w.heap.size)
    (h : ∀ v' w', Hid (w'.ownsRow base 47 2 v' (n + 1) (xs ++ [p, q])) → Hid (w.grownBy w' v.ownBlock) → Hid (v'.ownBlock = v.ownBlock ∨ v'.ownBlock = some w.heap.size) → K (a.put o.dst v') w') :
    if Region.wanted o (yielded ops a.tmps) = true then Oper.wp P o a w K Q else E := by
  rw [if_pos hw]
  obtain ⟨i0, hi0, hz0, hz1, hz2⟩ := infoPartsR hinfo
  obtain ⟨v', w', hr, ho1, hg1, _, h4⟩ := run_append_own_at (P := P) w base t o.type 47 i0 (.agg #[.int .i64 0, .string ByteArray.empty]) 2 24 ht hi0 hz0 hz1 hz2 rfl (by omega) v n xs hown ad 1 1 [p, q] rfl hnews (by
    intro u hu
    simp only [List.mem_cons, List.not_mem_nil, or_false] at hu
    rcases hu with rfl | rfl
    · exact hp
    · exact hq) (by unfold maxLen; omega) (by omega) hbase
  unfold Oper.wp execOp
  simp only [ho, resolve, invoke, builtin, Sem.run_bind, Sem.run_pure, Result.andThen_ok, List.map_toArray, List.map_cons, List.map_nil, hs, hx, hr]
  exact h v' w' ho1 hg1 h4
end Go.Proofs.Ytdbfmllcapikkaa
/- the law's told: the program's groups as the document's, and held against them. -/
namespace Go.Proofs.Ytdbfmllcapikkaa
open Go.RowKit
set_option linter.unusedVariables false
set_option linter.unusedSimpArgs false

/-- A row of the program's changes that can be read, as the document's. -/
def LRw (W : World) (v : Value) (l : List Dc) : Prop :=
  ∃ A c, v = .slice A l.length c ∧ l.length ≤ 1000000 ∧ (0 < l.length → ∃ b o, A = some ⟨b, o, none⟩ ∧ ∀ j x, l[j]? = some x → W.cell? ⟨b, o + j * 2, none⟩ = some (.int .i64 x.1) ∧ ∃ A' m c' F, W.cell? ⟨b, o + j * 2 + 1, none⟩ = some (.slice A' m c') ∧ Bytes W A' m F ∧ x.2 = strF F m)
def LGs (W : World) (v : Value) (gs : List (List Dc)) : Prop :=
  ∃ (A : Option Addr) (c : Nat) (vs : List Value), v = .slice A gs.length c ∧ vs.length = gs.length ∧ gs.length ≤ 1000000 ∧ (0 < gs.length → ∃ b o, A = some ⟨b, o, none⟩ ∧ ∀ (j : Nat) (u : Value), vs[j]? = some u → W.cell? ⟨b, o + j, none⟩ = some u) ∧
    ∀ (j : Nat) (u : Value) (l : List Dc), vs[j]? = some u → gs[j]? = some l → LRw W u l
theorem LRw.below {W W' : World} {v : Value} {l : List Dc} (h : LRw W v l) (k : Below W.heap.size W W') : LRw W' v l := by
  obtain ⟨A, c, e, h1, h2⟩ := h
  refine ⟨A, c, e, h1, fun h0 => ?_⟩
  obtain ⟨b, o, e2, h4⟩ := h2 h0
  refine ⟨b, o, e2, fun j x hx => ?_⟩
  obtain ⟨q1, A', m, c', F, q2, q3, q4⟩ := h4 j x hx
  exact ⟨kept_l k (cell_lt' q1) q1, A', m, c', F, kept_l k (cell_lt' q2) q2, q3.below k (Nat.le_refl _), q4⟩
theorem LGs.below {W W' : World} {v : Value} {gs : List (List Dc)} (h : LGs W v gs) (k : Below W.heap.size W W') : LGs W' v gs := by
  obtain ⟨A, c, vs, e, h1, h2, h3, h4⟩ := h
  refine ⟨A, c, vs, e, h1, h2, fun h0 => ?_, fun j u l a b => (h4 j u l a b).below k⟩
  obtain ⟨b, o, e2, h5⟩ := h3 h0
  exact ⟨b, o, e2, fun j u hu => kept_l k (cell_lt' (h5 j u hu)) (h5 j u hu)⟩
theorem LGs.len {W : World} {v : Value} {gs : List (List Dc)} (h : LGs W v gs) : ∃ A c, v = .slice A gs.length c ∧ gs.length ≤ 1000000 := by
  obtain ⟨A, c, vs, e, h1, h2, _⟩ := h
  exact ⟨A, c, e, h2⟩
/-- One row of them: its header, and what its changes are. -/
theorem LGs.at_ {W : World} {A : Option Addr} {n c : Nat} {gs : List (List Dc)} (h : LGs W (.slice A n c) gs) {i : Nat} (hi : i < gs.length) : ∃ b o, A = some ⟨b, o, none⟩ ∧ ∃ A' c' l, gs[i]? = some l ∧ W.cell? ⟨b, o + i, none⟩ = some (.slice A' l.length c') ∧ LRw W (.slice A' l.length c') l := by
  obtain ⟨A1, c1, vs, e, h1, h2, h3, h4⟩ := h
  injection e with e _ _
  subst e
  obtain ⟨b, o, rfl, h5⟩ := h3 (by omega)
  have hv : vs[i]? = some (vs[i]'(by omega)) := List.getElem?_eq_getElem _
  have hg : gs[i]? = some (gs[i]'hi) := List.getElem?_eq_getElem _
  have hr := h4 i _ _ hv hg
  obtain ⟨A', c', e', _⟩ := hr
  refine ⟨b, o, rfl, A', c', gs[i], hg, ?_, ?_⟩
  · rw [← e']; exact h5 i _ hv
  · rw [← e']; exact h4 i _ _ hv hg
theorem LRw.at_ {W : World} {A : Option Addr} {n c : Nat} {l : List Dc} (h : LRw W (.slice A n c) l) {j : Nat} {x : Dc} (hx : l[j]? = some x) : ∃ b o, A = some ⟨b, o, none⟩ ∧ W.cell? ⟨b, o + j * 2, none⟩ = some (.int .i64 x.1) ∧ ∃ A' m c' F, W.cell? ⟨b, o + j * 2 + 1, none⟩ = some (.slice A' m c') ∧ Bytes W A' m F ∧ x.2 = strF F m := by
  obtain ⟨A1, c1, e, h1, h2⟩ := h
  injection e with e _ _
  subst e
  obtain ⟨b, o, rfl, h5⟩ := h2 (by have := (List.getElem?_eq_some_iff.1 hx).1; omega)
  exact ⟨b, o, rfl, h5 j x hx⟩
theorem take_snoc {α : Type} {l : List α} {j : Nat} {x : α} (h : l[j]? = some x) : l.take (j + 1) = l.take j ++ [x] := by
  rw [List.take_add_one, h]; rfl
theorem take_len' {α : Type} {l : List α} {j : Nat} (h : j ≤ l.length) : (l.take j).length = j := by rw [List.length_take]; omega
set_option maxRecDepth 100000 in
set_option maxHeartbeats 8000000 in
theorem told_any (va vb : Value) (ga gb : List (List Dc)) (Y : Nat → Prop) (w : World) (ha : LGs w va ga) (hb : GD Y w vb gb) :
    Calls Try.prog 23 #[va, vb] w fun e w' => e = .returned (.bool (Sm ga gb)) ∧ Below w.heap.size w w' := by
  obtain ⟨Aa, ca, rfl, hla⟩ := ha.len
  obtain ⟨Ab, cb, rfl, hlb⟩ := hb.len
  have HA := Lib.hid ha
  have HB := Lib.hid hb
  clear ha hb
  obtain ⟨n, hn⟩ : ∃ n, n = ga.length := ⟨_, rfl⟩
  have HN := Lib.hid hn
  rw [← hn] at hla HA ⊢
  clear hn
  obtain ⟨i1, hi1, hy0, hy1, hy2⟩ := infoPartsR infoDcs
  have HI := Lib.hid (And.intro hi1 (And.intro hy0 (And.intro hy1 hy2)))
  clear hi1 hy0 hy1 hy2
  go_enter Try.func23, Try.ntmps23
  go_wp2
  go_loopw [5, 6] (fun u i wr => ∃ k : Nat, k ≤ n ∧ i = .int .i64 k ∧ GB w.heap.size (ga.take k) [] u (.slice none 0 0) wr ∧ Below w.heap.size w wr) (fun u i _ => n - (intOf i).toNat)
  case atStart => exact ⟨0, Nat.zero_le _, rfl, GB.nil _ _, Below.refl _ _⟩
  case round =>
    obtain ⟨k, hk, rfl, hgb, hbl⟩ := hrel
    obtain ⟨wo, hwo⟩ : ∃ wo, wo = wr := ⟨_, rfl⟩
    subst hwo
    have HL := Lib.hid hbl
    have HG := Lib.hid hgb
    clear hbl hgb
    by_cases hlt : k < n
    · obtain ⟨b1, o1, rfl, A1, c1, l1, g1, k1, r1⟩ := HA.out.at_ (i := k) (by rw [← HN.out]; exact hlt)
      have HG1 := Lib.hid g1
      have HR1 := Lib.hid r1
      obtain ⟨m1, hm1⟩ : ∃ m, m = l1.length := ⟨_, rfl⟩
      have hb1 : m1 ≤ 1000000 := by obtain ⟨_, _, _, h, _⟩ := r1; omega
      rw [← hm1] at k1 HR1
      have HM := Lib.hid hm1
      clear g1 r1 hm1
      have KS := Lib.hid (show ∀ W, Below w.heap.size w W → W.cell? ⟨b1, o1 + k, none⟩ = some (.slice A1 m1 c1) from fun W l => kept_l l (cell_lt' k1) k1)
      clear k1
      go_wp2
      go_loopw [7, 8] (fun u i W => ∃ j : Nat, j ≤ m1 ∧ i = .int .i64 j ∧ GB w.heap.size (ga.take k) (l1.take j) u5 u W ∧ Below w.heap.size w W) (fun u i _ => m1 - (intOf i).toNat)
      case atStart => exact ⟨0, Nat.zero_le _, rfl, HG.out, HL.out⟩
      case round =>
        obtain ⟨j, hj, rfl, hgb, hbl⟩ := hrel
        obtain ⟨wi, hwi⟩ : ∃ wi, wi = wr := ⟨_, rfl⟩
        subst hwi
        have HLi := Lib.hid hbl
        have HGi := Lib.hid hgb
        have hsz := hbl.size
        clear hbl hgb
        have q1 := KS.out _ HLi.out
        by_cases hjl : j < m1
        · obtain ⟨x, hx⟩ : ∃ x, l1[j]? = some x := ⟨_, List.getElem?_eq_getElem (by have := HM.out; omega)⟩
          obtain ⟨b2, o2, rfl, d0, A2, m2, c2, F2, d1, by2, e2⟩ := HR1.out.at_ hx
          have HX := Lib.hid hx
          clear hx
          obtain ⟨xp, xs⟩ := x
          dsimp only at d0 e2
          subst e2
          have KC := Lib.hid (show ∀ W, Below w.heap.size w W → W.cell? ⟨b1, o1 + k, none⟩ = some (.slice (some ⟨b2, o2, none⟩) m1 c1) ∧ W.cell? ⟨b2, o2 + j * 2, none⟩ = some (.int .i64 xp) ∧ W.cell? ⟨b2, o2 + j * 2 + 1, none⟩ = some (.slice A2 m2 c2) ∧ (convert 42 9 (.slice A2 m2 c2)).run Try.prog W = .ok (.string (strF F2 m2)) W from fun W l => ⟨KS.out W l, kept_l l (cell_lt' d0) d0, kept_l l (cell_lt' d1) d1, conv_any c2 (by2.below l (Nat.le_refl _))⟩)
          obtain ⟨xs, hxs⟩ : ∃ s, s = strF F2 m2 := ⟨_, rfl⟩
          rw [← hxs] at KC HX
          clear hxs d0 d1 by2
          obtain ⟨s1, s2, s3, s4⟩ := KC.out _ HLi.out
          have hlen : (l1.take j).length = j := take_len' (by have := HM.out; omega)
          have hown := HGi.out.own.2
          rw [hlen] at hown
          obtain ⟨A7, c7, rfl⟩ := own_sl hown
          have HO := Lib.hid hown
          have HLen := Lib.hid hlen
          have l3 : Below wi.heap.size wi (wi.drew.alloc (.cells #[.int .i64 xp, .string xs] 47)) := ((Below.refl _ _).drew).alloc (Nat.le_refl _) _
          have L3 := Lib.hid l3
          have HO3 := Lib.hid (own_belowR hown l3)
          have HB3 := Lib.hid (HGi.out.below l3)
          clear hown hlen l3
          have KK := Lib.hid (show ∀ W, Below wi.heap.size wi W → W.cell? ⟨b1, o1 + k, none⟩ = some (.slice (some ⟨b2, o2, none⟩) m1 c1) ∧ W.cell? ⟨b2, o2 + j * 2, none⟩ = some (.int .i64 xp) ∧ W.cell? ⟨b2, o2 + j * 2 + 1, none⟩ = some (.slice A2 m2 c2) ∧ (convert 42 9 (.slice A2 m2 c2)).run Try.prog W = .ok (.string xs) W from fun W l => KC.out W (HLi.out.trans (l.mono hsz)))
          go_wp2
          go_region_held_law (fun W => W.cell? ⟨b1, o1 + k, none⟩ = some (.slice (some ⟨b2, o2, none⟩) m1 c1) ∧ W.cell? ⟨b2, o2 + j * 2, none⟩ = some (.int .i64 xp) ∧ W.cell? ⟨b2, o2 + j * 2 + 1, none⟩ = some (.slice A2 m2 c2) ∧ (convert 42 9 (.slice A2 m2 c2)).run Try.prog W = .ok (.string xs) W)
            (first | exact KC.out _ LW.out | exact KK.out _ L3.out | exact KK.out _ (Below.refl _ _).drew)
            (first
            | (refine step_append_dc (by rfl) _ _ 45 rfl Try.underlying45 infoDc w.heap.size (.slice A7 j c7) j (dcCells (l1.take j)) rfl HO3.out ⟨wi.heap.size, 0, none⟩ (.int .i64 xp) (.string xs) rfl rfl rfl (cells_newR2 _ _ _ _) (by omega) (Nat.le_trans hsz (by simp)) ?_
               intro v2 w9 HO2 HG2 HA2
               have LW : Hid (Below w.heap.size w w9) := Lib.hid ((HLi.out.trans (L3.out.mono hsz)).grown HG2.out (Nat.le_trans hsz (by simp)) (fun j hj => (HO3.out.lt j hj).1))))
          go_wp2
          go_roundw
          case rel =>
            refine ⟨j + 1, by omega, by go_num, ?_, LW.out⟩
            rw [take_snoc HX.out]
            exact HB3.out.push (x := (xp, xs)) (by rw [HLen.out]; omega) (by rw [HLen.out]; exact HO2.out) HG2.out HA2.out
          case measure => simp [intOf]; omega
        · obtain rfl : j = m1 := by omega
          have HGl := Lib.hid (show GB w.heap.size (ga.take k) l1 u5 u7 wi by
            have := HGi.out
            rw [List.take_of_length_le (l := l1) (by have := HM.out; omega)] at this
            exact this)
          have hlen : (ga.take k).length = k := take_len' (by have := HN.out; omega)
          obtain ⟨⟨A5, c5, h5⟩, ⟨A7, c7, h7⟩, _⟩ := HGl.out.len
          rw [hlen] at h5
          rw [← HM.out] at h7
          subst h5 h7
          obtain ⟨vs, hvs⟩ := HGl.out.own.1
          rw [hlen] at hvs
          have HV := Lib.hid hvs
          have HLen := Lib.hid hlen
          clear hvs hlen
          have l3 : Below wi.heap.size wi (wi.alloc (.cells #[.slice A7 j c7] 45)) := (Below.refl _ _).alloc (Nat.le_refl _) _
          have L3 := Lib.hid l3
          have HB3 := Lib.hid (HGl.out.below l3)
          have HV3 := Lib.hid (own_belowR HV.out l3)
          clear l3
          go_wp2_with (at_builtin; refine wpList_append_own_at _ rfl _ _ 37 rfl w.heap.size 45 i1 (.slice none 0 0) 1 24 Try.underlying37 HI.out.1 HI.out.2.1 HI.out.2.2.1 HI.out.2.2.2 rfl (by decide) _ _ _ rfl HV3.out ⟨wi.heap.size, 0, none⟩ 1 1 [.slice A7 j c7] rfl rfl (cells_newR1 _ _ _) (by simp [Value.oneCell']) (by unfold maxLen; omega) (by omega) (by simp; omega) ?_; intro v2 w9 hown hgr _ hat; have LW : Hid (Below w.heap.size w w9) := Lib.hid ((HLi.out.trans (L3.out.mono hsz)).grown hgr (Nat.le_trans hsz (by simp)) (fun j hj => (HV3.out.lt j hj).1)); have HQ := Lib.hid (And.intro hown hgr); clear hown hgr hat)
          go_roundw
          case rel =>
            refine ⟨k + 1, by omega, by go_num, ?_, LW.out⟩
            rw [take_snoc HG1.out]
            exact HB3.out.close (by rw [HLen.out]; omega) (fun vs' hv => by
              rw [HLen.out] at hv ⊢
              rw [own_same hv HV3.out]
              exact HQ.out.1) HQ.out.2
          case measure => simp [intOf]; omega
    · obtain rfl : k = n := by omega
      obtain ⟨⟨A5, c5, h5⟩, _⟩ := HG.out.len
      have HGk := Lib.hid (show GB w.heap.size ga [] u5 (.slice none 0 0) wo by
        have := HG.out
        rw [List.take_of_length_le (l := ga) (by have := HN.out; omega)] at this
        exact this)
      obtain ⟨X, hgd⟩ := HGk.out.gd
      have KQ := Lib.hid (refSame_any X Y u5 (.slice Ab gb.length cb) ga gb wo hgd (HB.out.below HL.out))
      clear h5 hgd
      go_wp2_with fail
      refine KQ.out.mono ?_
      rintro e w5 ⟨rfl, l5⟩
      have L5 := Lib.hid l5
      clear l5
      go_wp2
      go_ret
      exact ⟨rfl, HL.out.trans (L5.out.mono HL.out.size)⟩
end Go.Proofs.Ytdbfmllcapikkaa
/- The walk of FrameBack: a sector is read as it was made. -/
namespace Go.Proofs.Ytdbfmllcapikkaa
open Go.RowKit

theorem sec_mark {m v n : Nat} {G : Nat → Nat} (hv : v < 18446744073709551616) (hm : 16 ≤ m) : leTo (secF m v n G) 8 = v := by
  have e8 : (256 : Nat) ^ 8 = 18446744073709551616 := by decide
  refine leTo_eq (by rw [e8]; exact hv) fun i hi => ?_
  rw [secF_head hv hm (by omega)]
  unfold headF
  rw [if_pos hi]
theorem sec_ok {m v n : Nat} {G : Nat → Nat} (h44 : 44 ≤ m) (h1 : 1 ≤ v) (h2 : v ≤ 4611686018427387904) (hF : ∀ i, i < m + 20 → secF m v n G i < 256) : okP (secF m v n G) m := by
  have hv : v < 18446744073709551616 := by omega
  refine (ok_iff h44 hF).2 ?_
  unfold secP
  rw [sec_mark hv (by omega)]
  refine ⟨⟨h1, h2⟩, fun i hi => ?_⟩
  have hbody : ∀ j, j < m → bodyF v (m - 16) (fun j => secF m v n G (16 + j)) j = bodyF v n G j := fun j hj => by
    rw [← secF_body hv hj, ← secF_body (n := n) hv hj]
    by_cases h16 : j < 16
    · rw [secF_head hv (by omega) h16, secF_head hv (by omega) h16]
    · rw [secF_load hv (by omega) (by omega) hj]
      show secF m v n G (16 + (j - 16)) = _
      congr 1
      omega
  by_cases h1 : i < m
  · rw [secF_body hv h1, secF_body hv h1]
    exact hbody i h1
  · by_cases h2 : i < m + 4
    · obtain ⟨k, rfl⟩ : ∃ k, i = m + k := ⟨i - m, by omega⟩
      rw [secF_sum hv (by omega), secF_sum hv (by omega), crc_congr hbody]
    · obtain ⟨k, rfl⟩ : ∃ k, i = m + 4 + k := ⟨i - (m + 4), by omega⟩
      rw [secF_tail hv (by omega), secF_tail hv (by omega)]

end Go.Proofs.Ytdbfmllcapikkaa
/- One byte that is another one is found out: the plain part. -/
namespace Go.Proofs.Ytdbfmllcapikkaa

theorem xor_cancel {a b p : Nat} (h : a ^^^ p = b ^^^ p) : a = b := by
  have h2 := congrArg (fun x => x ^^^ p) h
  simpa only [Nat.xor_assoc, Nat.xor_self, Nat.xor_zero] using h2
theorem stp_bit {c : Nat} (h : c < 4294967296) : (stp c).testBit 31 = decide (c % 2 = 1) := by
  have hs : (c / 2).testBit 31 = false := Nat.testBit_lt_two_pow (by omega)
  unfold stp
  by_cases ho : c % 2 = 1
  · rw [if_pos ho, Nat.testBit_xor, hs]
    simp only [ho]
    decide
  · rw [if_neg ho, hs]
    simp [ho]
theorem stp_inj {c d : Nat} (hc : c < 4294967296) (hd : d < 4294967296) (h : stp c = stp d) : c = d := by
  have h1 := stp_bit hc
  have h2 := stp_bit hd
  rw [h, h2] at h1
  have h3 := decide_eq_decide.1 h1
  unfold stp at h
  by_cases ho : c % 2 = 1
  · rw [if_pos ho, if_pos (h3.2 ho)] at h
    have := xor_cancel h
    have := h3.2 ho
    omega
  · have hd2 : ¬ d % 2 = 1 := fun q => ho (h3.1 q)
    rw [if_neg ho, if_neg hd2] at h
    omega
theorem stpN_inj {c d : Nat} (hc : c < 4294967296) (hd : d < 4294967296) : ∀ k, stpN k c = stpN k d → c = d
  | 0, h => h
  | k + 1, h => stpN_inj hc hd k (stp_inj (stpN_lt hc k) (stpN_lt hd k) h)
/-- Bytes that differ at one place alone have unlike checks. -/
theorem crcTo_one {F G : Nat → Nat} {k : Nat} (hne : F k ≠ G k) : ∀ {n : Nat}, (∀ i, i < n → F i < 256) → (∀ i, i < n → G i < 256) → (∀ i, i < n → i ≠ k → F i = G i) → k < n → crcTo F n ≠ crcTo G n
  | 0, _, _, _, h => absurd h (by omega)
  | n + 1, hF, hG, hs, hk => by
    have f1 := crcTo_lt (F := F) (n := n) fun i hi => hF i (by omega)
    have g1 := crcTo_lt (F := G) (n := n) fun i hi => hG i (by omega)
    have f2 := hF n (by omega)
    have g2 := hG n (by omega)
    intro h
    have h1 := stpN_inj (xor_lt32 f1 (by omega)) (xor_lt32 g1 (by omega)) 8 h
    by_cases e : k = n
    · subst e
      have hc : crcTo F k = crcTo G k := crcTo_congr fun i hi => hs i (by omega) (by omega)
      rw [hc, Nat.xor_comm, Nat.xor_comm (crcTo G k)] at h1
      exact hne (xor_cancel h1)
    · have hn := hs n (by omega) (fun q => e q.symm)
      rw [hn] at h1
      exact crcTo_one hne (fun i hi => hF i (by omega)) (fun i hi => hG i (by omega)) (fun i hi => hs i (by omega)) (by omega) (xor_cancel h1)
theorem crc_one {F G : Nat → Nat} {k n : Nat} (hne : F k ≠ G k) (hF : ∀ i, i < n → F i < 256) (hG : ∀ i, i < n → G i < 256) (hs : ∀ i, i < n → i ≠ k → F i = G i) (hk : k < n) : crc F n ≠ crc G n := by
  have h := crcTo_one hne hF hG hs hk
  have f1 := crcTo_lt hF
  have g1 := crcTo_lt hG
  unfold crc
  omega

/-- Of bytes that are a sector of mark v: head, tail, check. -/
theorem ok_head {F : Nat → Nat} {m : Nat} (hm : 44 ≤ m) (hF : ∀ i, i < m + 20 → F i < 256) (h : okP F m) : (∀ i, i < 16 → headF (leTo F 8) i = F i) ∧ (∀ i, i < 16 → headF (leTo F 8) i = F (m + 4 + i)) := by
  obtain ⟨⟨_, h2⟩, p1, p2, _⟩ := h
  exact ⟨(pair_head (by omega) fun i hi => hF i (by omega)).1 p1, (pair_head (G := fun i => F (m + 4 + i)) (by omega) fun i hi => hF _ (by omega)).1 p2⟩
theorem leTo_head {v : Nat} (hv : v < 18446744073709551616) {F : Nat → Nat} (h : ∀ i, i < 8 → headF v i = F i) : leTo F 8 = v := by
  have e8 : (256 : Nat) ^ 8 = 18446744073709551616 := by decide
  refine leTo_eq (by rw [e8]; exact hv) fun i hi => ?_
  rw [← h i hi]
  unfold headF
  rw [if_pos hi]

theorem turned {F G : Nat → Nat} {m k : Nat} (hm : 44 ≤ m) (hF : ∀ i, i < m + 20 → F i < 256) (hG : ∀ i, i < m + 20 → G i < 256) (hs : ∀ i, i < m + 20 → i ≠ k → F i = G i) (hk : k < m + 20) (hne : F k ≠ G k) (hok : okP F m) : ¬ okP G m := by
  intro hok2
  obtain ⟨f1, f2⟩ := ok_head hm hF hok
  obtain ⟨g1, g2⟩ := ok_head hm hG hok2
  have vF : leTo F 8 < 18446744073709551616 := by have := hok.1; omega
  have vG : leTo G 8 < 18446744073709551616 := by have := hok2.1; omega
  by_cases h1 : k < 16
  · have e : leTo F 8 = leTo G 8 := by
      have a1 := leTo_head vF (F := fun i => F (m + 4 + i)) fun i hi => f2 i (by omega)
      have a2 := leTo_head vG (F := fun i => G (m + 4 + i)) fun i hi => g2 i (by omega)
      rw [← a1, ← a2]
      exact leTo_congr fun i hi => hs _ (by omega) (by omega)
    exact hne (by rw [← f1 k h1, ← g1 k h1, e])
  · by_cases h2 : k < m
    · have c1 := hok.2.2.2
      have c2 := hok2.2.2.2
      have e : leTo (fun i => F (m + i)) 4 = leTo (fun i => G (m + i)) 4 := leTo_congr fun i hi => hs _ (by omega) (by omega)
      rw [c1, c2] at e
      exact crc_one hne (fun i hi => hF i (by omega)) (fun i hi => hG i (by omega)) (fun i hi => hs i (by omega)) h2 e
    · by_cases h3 : k < m + 4
      · have c1 := hok.2.2.2
        have c2 := hok2.2.2.2
        have e : crc F m = crc G m := crc_congr fun i hi => hs i (by omega) (by omega)
        rw [← c1, ← c2] at e
        have d1 := leTo_digit (F := fun i => F (m + i)) (n := 4) (i := k - m) (fun i hi => hF _ (by omega)) (by omega)
        have d2 := leTo_digit (F := fun i => G (m + i)) (n := 4) (i := k - m) (fun i hi => hG _ (by omega)) (by omega)
        rw [e, d2] at d1
        have ek : m + (k - m) = k := by omega
        rw [ek] at d1
        exact hne d1.symm
      · have e : leTo F 8 = leTo G 8 := leTo_congr fun i hi => hs i (by omega) (by omega)
        have a1 := f2 (k - (m + 4)) (by omega)
        have a2 := g2 (k - (m + 4)) (by omega)
        have ek : m + 4 + (k - (m + 4)) = k := by omega
        rw [ek] at a1 a2
        exact hne (by rw [← a1, ← a2, e])
end Go.Proofs.Ytdbfmllcapikkaa
/- What is torn is found out: the plain part. -/
namespace Go.Proofs.Ytdbfmllcapikkaa

theorem okP_congr {F G : Nat → Nat} {m : Nat} (hm : 44 ≤ m) (h : ∀ i, i < m + 20 → F i = G i) (hok : okP F m) : okP G m := by
  have e1 : leTo F 8 = leTo G 8 := leTo_congr fun i hi => h i (by omega)
  have e2 : leTo (fun i => F (8 + i)) 8 = leTo (fun i => G (8 + i)) 8 := leTo_congr fun i hi => h _ (by omega)
  have e3 : leTo (fun i => F (m + 4 + i)) 8 = leTo (fun i => G (m + 4 + i)) 8 := leTo_congr fun i hi => h _ (by omega)
  have e4 : leTo (fun i => F (m + 4 + (8 + i))) 8 = leTo (fun i => G (m + 4 + (8 + i))) 8 := leTo_congr fun i hi => h _ (by omega)
  have e5 : leTo (fun i => F (m + i)) 4 = leTo (fun i => G (m + i)) 4 := leTo_congr fun i hi => h _ (by omega)
  have e6 : crc F m = crc G m := crc_congr fun i hi => h i (by omega)
  unfold okP pairB at hok ⊢
  rw [← e1, ← e2, ← e3, ← e4, ← e5, ← e6]
  exact hok

/-- Bytes of a sector of mark M, as far as its marks go. -/
def Marked (S : Nat → Nat) (m M : Nat) : Prop := (∀ i, i < 16 → S i = headF M i) ∧ (∀ i, i < 16 → S (m + 4 + i) = headF M i)
theorem sec_marked {m v n : Nat} {G : Nat → Nat} (hv : v < 18446744073709551616) (hm : 16 ≤ m) : Marked (secF m v n G) m v :=
  ⟨fun _ hi => secF_head hv hm hi, fun _ hi => secF_tail hv hi⟩
theorem low_eq {v M : Nat} (hv : v < 18446744073709551616) (hM : M < 18446744073709551616) (h : ∀ i, i < 8 → headF v i = headF M i) : v = M := by
  have h1 := leTo_head hv (F := headF M) h
  have h2 := leTo_head hM (F := headF M) fun i _ => rfl
  omega
theorem high_eq {v M : Nat} (hv : v < 18446744073709551616) (hM : M < 18446744073709551616) (h : ∀ i, 8 ≤ i → i < 16 → headF v i = headF M i) : v = M := by
  refine low_eq hv hM fun i hi => ?_
  have h1 := h (8 + i) (by omega) (by omega)
  unfold headF at h1 ⊢
  rw [if_neg (by omega), if_neg (by omega), Nat.add_sub_cancel_left] at h1
  rw [if_pos hi, if_pos hi]
  have := leF_lt v i
  have := leF_lt M i
  omega
theorem high_zero {v : Nat} (hv : v ≤ 4611686018427387904) (h : ∀ i, 8 ≤ i → i < 16 → headF v i = 0) : False := by
  have h1 := h 15 (by omega) (by omega)
  unfold headF leF at h1
  rw [if_neg (by omega)] at h1
  have e : (256 : Nat) ^ (15 - 8) = 72057594037927936 := by decide
  rw [e] at h1
  omega

def tornF (base S1 S2 : Nat → Nat) (c1 c2 : Nat) : Nat → Nat := copyF (copyF base 0 c1 S1) 0 c2 S2
theorem torn_at (base S1 S2 : Nat → Nat) (c1 c2 i : Nat) : tornF base S1 S2 c1 c2 i = if i < c2 then S2 i else if i < c1 then S1 i else base i := by
  unfold tornF copyF
  simp only [Nat.zero_le, true_and, Nat.zero_add, Nat.sub_zero]

/-- First pieces of two sectors upon a third one, or upon 0: what is read as a sector is just one of them. -/
theorem torn_one {m M0 M1 M2 c1 c2 : Nat} {base S1 S2 : Nat → Nat} {zero : Bool} (hm : 44 ≤ m)
    (h0 : zero = false → Marked base m M0) (hz : zero = true → ∀ i, base i = 0) (h1 : Marked S1 m M1) (h2 : Marked S2 m M2)
    (v0 : M0 ≤ 4611686018427387904) (v1 : M1 ≤ 4611686018427387904) (v2 : M2 ≤ 4611686018427387904) (n01 : zero = false → M0 ≠ M1) (n02 : zero = false → M0 ≠ M2) (n12 : M1 ≠ M2)
    (hF : ∀ i, i < m + 20 → tornF base S1 S2 c1 c2 i < 256) (hok : okP (tornF base S1 S2 c1 c2) m) :
    (∀ i, i < m + 20 → tornF base S1 S2 c1 c2 i = S2 i) ∨ (∀ i, i < m + 20 → tornF base S1 S2 c1 c2 i = S1 i) ∨ (zero = false ∧ ∀ i, i < m + 20 → tornF base S1 S2 c1 c2 i = base i) := by
  obtain ⟨hh, ht⟩ := ok_head hm hF hok
  have hv2 := hok.1.2
  generalize leTo (tornF base S1 S2 c1 c2) 8 = v at hh ht hv2
  have hv : v < 18446744073709551616 := by omega
  simp only [torn_at] at hh ht ⊢
  -- the end of the tail is the base's: it has the base's mark
  have base_high : (∀ i, 8 ≤ i → i < 16 → headF v i = base (m + 4 + i)) → zero = false ∧ v = M0 := fun h => by
    cases zero with
    | true => exact absurd (fun i a b => (h i a b).trans (hz rfl _)) (fun q => high_zero hv2 q)
    | false => exact ⟨rfl, high_eq hv (by omega) fun i a b => (h i a b).trans ((h0 rfl).2 i b)⟩
  by_cases a : 16 ≤ c2
  · have e2 : v = M2 := low_eq hv (by omega) fun i hi => by
      have := hh i (by omega)
      rw [if_pos (by omega)] at this
      rw [this, h2.1 i (by omega)]
    by_cases b : m + 4 ≤ c2
    · refine .inl fun i hi => ?_
      by_cases c : i < c2
      · rw [if_pos c]
      · obtain ⟨k, rfl⟩ : ∃ k, i = m + 4 + k := ⟨i - (m + 4), by omega⟩
        rw [← ht k (by omega), e2, h2.2 k (by omega)]
    · by_cases d : m + 12 ≤ c1
      · have e1 : v = M1 := low_eq hv (by omega) fun i hi => by
          have := ht i (by omega)
          rw [if_neg (by omega), if_pos (by omega)] at this
          rw [this, h1.2 i (by omega)]
        omega
      · have e0 := base_high fun i x y => by
          have := ht i y
          rw [if_neg (by omega), if_neg (by omega)] at this
          exact this
        exact absurd (e0.2.symm.trans e2) (n02 e0.1)
  · by_cases d : m + 12 ≤ c1
    · have e1 : v = M1 := low_eq hv (by omega) fun i hi => by
        have := ht i (by omega)
        rw [if_neg (by omega), if_pos (by omega)] at this
        rw [this, h1.2 i (by omega)]
      refine .inr (.inl fun i hi => ?_)
      by_cases x : i < 16
      · rw [← hh i x, e1, h1.1 i x]
      · by_cases y : i < c1
        · rw [if_neg (by omega), if_pos y]
        · obtain ⟨k, rfl⟩ : ∃ k, i = m + 4 + k := ⟨i - (m + 4), by omega⟩
          rw [← ht k (by omega), e1, h1.2 k (by omega)]
    · have e0 := base_high fun i x y => by
        have := ht i y
        rw [if_neg (by omega), if_neg (by omega)] at this
        exact this
      by_cases f : 16 ≤ c1
      · by_cases g : c2 ≤ 8
        · have e1 : v = M1 := high_eq hv (by omega) fun i x y => by
            have := hh i y
            rw [if_neg (by omega), if_pos (by omega)] at this
            rw [this, h1.1 i y]
          exact absurd (e0.2.symm.trans e1) (n01 e0.1)
        · have e2 : v = M2 := low_eq hv (by omega) fun i hi => by
            have := hh i (by omega)
            rw [if_pos (by omega)] at this
            rw [this, h2.1 i (by omega)]
          exact absurd (e0.2.symm.trans e2) (n02 e0.1)
      · refine .inr (.inr ⟨e0.1, fun i hi => ?_⟩)
        by_cases x : i < 16
        · rw [← hh i x, e0.2, (h0 e0.1).1 i x]
        · rw [if_neg (by omega), if_neg (by omega)]
end Go.Proofs.Ytdbfmllcapikkaa
/- The contract of the document's Read; both reads in one form. -/
namespace Go.Proofs.Ytdbfmllcapikkaa
open Go.RowKit

/-- What is read of n bytes: mark, length of the load, error number. -/
def ReadRes (F : Nat → Nat) (n v k : Nat) (e : Int) : Prop :=
  ((n < 64 ∨ 4096 < n) ∧ v = 0 ∧ k = 0 ∧ e = 3) ∨ ((64 ≤ n ∧ n ≤ 4096) ∧ okP F (n - 20) ∧ v = leTo F 8 ∧ k = n - 36 ∧ e = 0) ∨ ((64 ≤ n ∧ n ≤ 4096) ∧ ¬ okP F (n - 20) ∧ v = 0 ∧ k = 0 ∧ e = 5)
theorem ReadRes.same {F : Nat → Nat} {n v k v' k' : Nat} {e e' : Int} (h : ReadRes F n v k e) (h' : ReadRes F n v' k' e') : v = v' ∧ k = k' ∧ e = e' := by
  rcases h with ⟨a, b, c, d⟩ | ⟨a, p, b, c, d⟩ | ⟨a, p, b, c, d⟩ <;> rcases h' with ⟨a', b', c', d'⟩ | ⟨a', p', b', c', d'⟩ | ⟨a', p', b', c', d'⟩ <;> first | exact absurd p' p | exact absurd p p' | exact ⟨b.trans b'.symm, c.trans c'.symm, d.trans d'.symm⟩ | omega
theorem ReadRes.yes {F : Nat → Nat} {n m : Nat} (h1 : m + 20 ≤ n) (h2 : n ≤ m + 20) (h44 : 44 ≤ m) (hm : m ≤ 4076) (hok : okP F m) : ReadRes F n (leTo F 8) (m - 16) 0 := by
  have e : n - 20 = m := by omega
  exact .inr (.inl ⟨by omega, by rw [e]; exact hok, rfl, by omega, rfl⟩)
theorem ReadRes.no {F : Nat → Nat} {n m : Nat} (h1 : m + 20 ≤ n) (h2 : n ≤ m + 20) (h44 : 44 ≤ m) (hm : m ≤ 4076) (hok : ¬ okP F m) : ReadRes F n 0 0 5 := by
  have e : n - 20 = m := by omega
  exact .inr (.inr ⟨by omega, by rw [e]; exact hok, rfl, rfl, rfl⟩)

theorem read_all (A : Option Addr) (n c : Nat) (F : Nat → Nat) (w : World) (hb : Bytes w A n F) (hc : n ≤ c) (hc2 : c ≤ 9223372036854775807) :
    Calls Try.prog 64 #[.slice A n c] w fun e w' =>
      ∃ v k B d er, e = .returned (.tuple #[.int .i64 ((v : Nat) : Int), .slice B k d, .int .i64 er]) ∧ ReadRes F n v k er ∧ Bytes w' B k (fun i => F (16 + i)) ∧ Below w.heap.size w w' := by
  by_cases hs : n < 64 ∨ 4096 < n
  · exact (read_size A n c w hs hb.1).mono fun e w' ⟨he, hw⟩ => ⟨0, 0, none, 0, 3, he, .inl ⟨hs, rfl, rfl, rfl⟩, none_bytes _ _, hw ▸ Below.refl _ _⟩
  · obtain ⟨b, o, rfl, _⟩ := hb.2.2 (by omega)
    by_cases hok : okP F (n - 20)
    · exact (read_yes b o n (n - 20) c F w (by omega) (by omega) (by omega) (by omega) hc hc2 hb hok).mono fun e w' ⟨B, d, he, h1, _, _, h2⟩ =>
        ⟨leTo F 8, n - 20 - 16, B, d, 0, he, .yes (by omega) (by omega) (by omega) (by omega) hok, h1, h2⟩
    · exact (read_no b o n (n - 20) c F w (by omega) (by omega) (by omega) (by omega) hc hc2 hb hok).mono fun e w' ⟨he, h2⟩ =>
        ⟨0, 0, none, 0, 5, he, .no (by omega) (by omega) (by omega) (by omega) hok, none_bytes _ _, h2⟩

/-- The number that is gathered from the highest byte down. -/
def topF (F : Nat → Nat) : Nat → Nat
  | 0 => 0
  | k + 1 => 256 * topF F k + F (7 - k)
theorem top_all (F : Nat → Nat) : topF F 8 = leTo F 8 := by
  simp [topF, leTo]
  omega
theorem top_grows (F : Nat → Nat) (k : Nat) : ∀ j, k ≤ j → topF F k ≤ topF F j
  | 0, h => by obtain rfl : k = 0 := by omega
               exact Nat.le_refl _
  | j + 1, h => by
    rcases Nat.lt_or_ge j k with h1 | h1
    · obtain rfl : k = j + 1 := by omega
      exact Nat.le_refl _
    · have := top_grows F k j h1
      rw [topF]
      omega
theorem top_high {F : Nat → Nat} {k : Nat} (hk : k < 8) (h : 18014398509481984 < topF F k) : 4611686018427387904 < leTo F 8 := by
  have h1 := top_grows F (k + 1) 8 (by omega)
  rw [top_all, topF] at h1
  omega

theorem refRead_size (A : Option Addr) (n c : Nat) (w : World) (h : n < 64 ∨ 4096 < n) (hn : n ≤ 9223372036854775807) :
    Calls Try.prog 53 #[.slice A n c] w fun e w' => e = .returned (.tuple #[.int .i64 0, .slice none 0 0, .int .i64 3]) ∧ w = w' := by
  by_cases hs : n < 64
  · clear h
    go_enter Try.func53, Try.ntmps53
    go_wp2
    go_ret3
    exact ⟨rfl, rfl⟩
  · have h2 : 4096 < n := by omega
    clear h
    go_enter Try.func53, Try.ntmps53
    go_wp2
    go_ret3
    exact ⟨rfl, rfl⟩

def RefPost (F : Nat → Nat) (n : Nat) (w : World) (e : Ending) (w' : World) : Prop :=
  ∃ v k B d er, e = .returned (.tuple #[.int .i64 ((v : Nat) : Int), .slice B k d, .int .i64 er]) ∧ ReadRes F n v k er ∧ Bytes w' B k (fun i => F (16 + i)) ∧ Below w.heap.size w w'

set_option maxHeartbeats 1000000 in
theorem refRead_in (b o n m c : Nat) (F : Nat → Nat) (w : World) (h1 : m + 20 ≤ n) (h2 : n ≤ m + 20) (h44 : 44 ≤ m) (hm : m ≤ 4076) (hc : n ≤ c) (_hc2 : c ≤ 9223372036854775807) (hb : Bytes w (some ⟨b, o, none⟩) n F) :
    Calls Try.prog 53 #[.slice (some ⟨b, o, none⟩) n c] w (RefPost F n w) := by
  obtain ⟨bx, ox, hx, hcell⟩ := hb.2.2 (by omega)
  obtain ⟨rfl, rfl⟩ : b = bx ∧ o = ox := by injection hx with hx; injection hx with hx1 hx2; exact ⟨hx1, hx2⟩
  clear hx
  have HC := Lib.hid hcell
  clear hcell
  go_enter Try.func53, Try.ntmps53
  go_wp2
  go_loop [5, 6] (fun t i => (∃ j : Nat, j ≤ 7 ∧ i = .int .i64 j ∧ t = .int .i64 (topF F (7 - j))) ∨ (i = .int .i64 (-1) ∧ t = .int .i64 (topF F 8))) (fun _ i => (intOf i + 1).toNat)
  case atStart => exact .inl ⟨7, by omega, rfl, rfl⟩
  case round =>
    rcases hrel with ⟨j, hj, rfl, rfl⟩ | ⟨rfl, rfl⟩
    · by_cases hhi : 18014398509481984 < topF F (7 - j)
      · have hbig := top_high (by omega) hhi
        have hno : ¬ okP F m := fun h => by have := h.1.2; omega
        have hr := ReadRes.no (n := n) h1 h2 h44 hm hno
        have HR := Lib.hid hr
        clear hr hno hbig
        obtain ⟨x, hxx⟩ : ∃ x, x = topF F (7 - j) := ⟨_, rfl⟩
        rw [← hxx] at hhi ⊢
        clear hxx
        go_wp2
        go_ret3
        exact ⟨0, 0, none, 0, 5, rfl, HR.out, none_bytes _ _, Below.refl _ _⟩
      · have hF := hb.2.1 j (by omega)
        have hcj := HC.out j (by omega)
        have hstep : 256 * topF F (7 - j) + F j = topF F (7 - j + 1) := by
          rw [topF]
          congr 2
          omega
        obtain ⟨x, hxx⟩ : ∃ x, x = topF F (7 - j) := ⟨_, rfl⟩
        rw [← hxx] at hhi hstep ⊢
        have HS := Lib.hid hstep
        clear hxx hstep
        by_cases hj0 : j = 0
        · subst hj0
          have hcj0 : w.cell? ⟨b, o, none⟩ = some (.int .u8 (F 0)) := by rw [Nat.add_zero] at hcj; exact hcj
          clear hcj
          go_wp2
          go_round
          case rel => exact .inr ⟨rfl, by rw [← HS.out]; go_num⟩
          case measure => simp [intOf]
        · have hjp : 0 < j := by omega
          clear hj0
          go_wp2
          go_round
          case rel => exact .inl ⟨j - 1, by omega, by go_num, by rw [show 7 - (j - 1) = 7 - j + 1 from by omega, ← HS.out]; go_num⟩
          case measure => simp only [intOf]; omega
    · rw [top_all]
      have L1 := (Below.refl w.heap.size w).alloc (Nat.le_refl _) (.cells #[] 5)
      have H1 := Lib.hid ((hb.cut 16 (n - 20 - 16) (by omega)).below L1 (Nat.le_refl _))
      have HO := Lib.hid (own_empty w F)
      have HL := Lib.hid L1
      clear L1
      go_wp2_with (at_builtin; with_reducible refine wpList_append_bytes _ rfl (.tmp 32) (.tmp 37) 42 rfl Try.underlying42 u8infoAll w.heap.size _ _ _ _ rfl HO.out _ _ _ _ rfl H1.out ?d0 ?d1 ?d2 ?d3)
      case d1 => omega
      case d3 =>
        intro A1 c1 w1 o1 g1 _
        have l1 : Below w.heap.size w w1 := HL.out.grown g1 (by simp) (by rintro k ⟨⟩; exact Nat.le_refl _)
        have o2 : OwnB w1 w.heap.size A1 (n - 20 - 16) c1 (fun i => F (16 + i)) := by
          have := o1.congr (G := fun i => F (16 + i)) fun i _ => by unfold catF; rw [if_neg (by omega), Nat.sub_zero]
          simpa only [Nat.zero_add] using this
        have b2 := Lib.hid o2.bytes
        have n2 := Lib.hid o2.2.2.2.2
        have hs1 := hb.below l1 (Nat.le_refl _)
        clear o1 g1 o2 HL HO H1
        obtain ⟨K, hK1, hK2, hKe⟩ : ∃ K, n ≤ K + 36 ∧ K + 36 ≤ n ∧ n - 20 - 16 = K := ⟨n - 20 - 16, by omega, by omega, rfl⟩
        rw [hKe] at b2 ⊢
        clear hKe
        go_wp2_with fail
        refine (refBuild_all (n : Int) (leTo F 8 : Int) K _ _ _ w1 b2.out n2.out).mono ?_
        rintro e w2 ⟨B2, d2, rfl, bb2, l2⟩
        have l3 : Below w.heap.size w w2 := l1.trans (l2.mono l1.size)
        have lb := b2.out.below l2 (Nat.le_refl _)
        by_cases hr : (leTo F 8 : Int) < 1 ∨ 4611686018427387904 < (leTo F 8 : Int)
        · have hno : ¬ okP F m := fun h => by have := h.1; omega
          have HR := Lib.hid (ReadRes.no (n := n) h1 h2 h44 hm hno)
          have hE := bErr_2 (size := (n : Int)) (mark := (leTo F 8 : Int)) (n := K) (by omega) hr
          rw [hE]
          clear hno hr
          go_wp2
          go_ret3
          exact ⟨0, 0, none, 0, 5, rfl, HR.out, none_bytes _ _, l3⟩
        · have hE := bErr_0 (size := (n : Int)) (mark := (leTo F 8 : Int)) (n := K) (by omega) hr (by omega)
          have hLn : bLen (n : Int) (leTo F 8 : Int) K = n := by unfold bLen; rw [hE, if_pos rfl]; omega
          rw [hE, hLn]
          rw [hLn] at bb2
          have k1 := conv_any d2 bb2
          have k2 := conv_any c (hs1.below l2 (Nat.le_refl _))
          have hF := hb.2.1
          have hB := bb2.2.1
          have hm' : (n : Int).toNat - 20 = m := by omega
          have hv' : (leTo F 8 : Int).toNat = leTo F 8 := by omega
          have hK' : K = m - 16 := by omega
          have hsec : okP F m ↔ ∀ i, i < n → bF (n : Int) (leTo F 8 : Int) K (fun i => F (16 + i)) i = F i := by
            rw [ok_iff h44 fun i hi => hF i (by omega)]
            unfold secP bF
            rw [hm', hv', hK']
            constructor
            · exact fun h i hi => h.2 i (by omega)
            · exact fun h => ⟨by omega, fun i hi => h i (by omega)⟩
          by_cases hok : okP F m
          · have HR := Lib.hid (ReadRes.yes (n := n) h1 h2 h44 hm hok)
            have q1 : ((strF (bF (n : Int) (leTo F 8 : Int) K fun i => F (16 + i)) n).toList == (strF F n).toList) = true := by
              rw [strF_congr (hsec.1 hok)]; simp
            have HK := Lib.hid hK'
            clear hm' hv' hsec hok hE hLn hr bb2 hB hF lb hK'
            have lb := b2.out.below l2 (Nat.le_refl _)
            go_wp2
            go_ret3
            exact ⟨leTo F 8, m - 16, A1, c1, 0, by rw [← HK.out]; rfl, HR.out, by rw [← HK.out]; exact lb, l3⟩
          · have HR := Lib.hid (ReadRes.no (n := n) h1 h2 h44 hm hok)
            have q1 : ((strF (bF (n : Int) (leTo F 8 : Int) K fun i => F (16 + i)) n).toList == (strF F n).toList) = false := by
              rw [beq_eq_false_iff_ne]
              intro h
              rw [ByteArray.toList_eq, ByteArray.toList_eq] at h
              exact hok (hsec.2 (strF_inj hB hF h))
            clear hm' hv' hsec hok hE hLn hr bb2 hB hF lb hK'
            go_wp2
            go_ret3
            exact ⟨0, 0, none, 0, 5, rfl, HR.out, none_bytes _ _, l3⟩

theorem refRead_all (A : Option Addr) (n c : Nat) (F : Nat → Nat) (w : World) (hb : Bytes w A n F) (hc : n ≤ c) (hc2 : c ≤ 9223372036854775807) :
    Calls Try.prog 53 #[.slice A n c] w (RefPost F n w) := by
  by_cases hs : n < 64 ∨ 4096 < n
  · exact (refRead_size A n c w hs hb.1).mono fun e w' ⟨he, hw⟩ => ⟨0, 0, none, 0, 3, he, .inl ⟨hs, rfl, rfl, rfl⟩, none_bytes _ _, hw ▸ Below.refl _ _⟩
  · obtain ⟨b, o, rfl, _⟩ := hb.2.2 (by omega)
    exact refRead_in b o n (n - 20) c F w (by omega) (by omega) (by omega) (by omega) hc hc2 hb
end Go.Proofs.Ytdbfmllcapikkaa
/- The walk of FrameTurned. -/
namespace Go.Proofs.Ytdbfmllcapikkaa
open Go.RowKit

theorem place_of (x : Int) (s : Nat) (h1 : 0 < s) (h2 : s ≤ 1000000) : ∃ j : Nat, j < s ∧ wrap64 ((IntKind.u64.wrap x).tmod (s : Int)) = (j : Int) := by
  have h0 := wrap_u64_nonneg x
  rw [Int.tmod_eq_emod_of_nonneg h0]
  have h3 := Int.emod_nonneg (IntKind.u64.wrap x) (show (s : Int) ≠ 0 by omega)
  have h4 := Int.emod_lt_of_pos (IntKind.u64.wrap x) (show (0 : Int) < (s : Int) by omega)
  obtain ⟨j, hj⟩ := Int.eq_ofNat_of_zero_le h3
  refine ⟨j, by omega, ?_⟩
  rw [hj]
  exact IntWalk.wrap64_in _ ⟨by omega, by omega⟩

end Go.Proofs.Ytdbfmllcapikkaa
/- What stands there behind each piece, and what was written. -/
namespace Go.Proofs.Ytdbfmllcapikkaa
open Go.RowKit

theorem build_int (size m n c : Nat) (mark : Int) (A : Option Addr) (F : Nat → Nat) (w : World) (h1 : m + 20 ≤ size) (h2 : size ≤ m + 20) (h44 : 44 ≤ m) (hm : m ≤ 4076) (hk1 : 1 ≤ mark) (hk2 : mark ≤ 4611686018427387904) (hn : 16 + n ≤ m) (hb : Bytes w A n F) :
    Calls Try.prog 61 #[.int .i64 size, .int .i64 mark, .slice A n c] w fun e w' =>
      e = .returned (.tuple #[.slice (some ⟨w.heap.size, 0, none⟩) size size, .int .i64 0]) ∧ BRow w' w.heap.size size (secF m mark.toNat n F) ∧ Below w.heap.size w w' := by
  obtain ⟨k, rfl⟩ := Int.eq_ofNat_of_zero_le (show 0 ≤ mark by omega)
  exact build_ok size m k n c A F w h1 h2 h44 hm (by omega) (by omega) hn hb
theorem strinfo : (Try.prog.info? 9).map (fun i => (i.zero, i.size, i.bytes)) = some (some (.string ByteArray.empty), 1, 16) := by kernel_rfl

/-- What stands there, and what was written, behind k rounds. -/
def nowS (zero : Bool) (S : Nat → Nat → Nat) (cut : Nat → Nat) : Nat → Nat → Nat
  | 0 => zeroF
  | k + 1 => if k = 0 ∧ zero = true then zeroF else copyF (nowS zero S cut k) 0 (cut k) (S k)
def wholeS (zero : Bool) (S : Nat → Nat → Nat) (s : Nat) : Nat → List Value
  | 0 => []
  | k + 1 => if k = 0 ∧ zero = true then [] else wholeS zero S s k ++ [.string (strF (S k) s)]
theorem nowS_skip (zero : Bool) (S : Nat → Nat → Nat) (cut : Nat → Nat) (h : zero = true) : nowS zero S cut 1 = nowS zero S cut 0 := if_pos ⟨rfl, h⟩
theorem nowS_step {zero : Bool} {S : Nat → Nat → Nat} {cut : Nat → Nat} {k : Nat} (h : ¬ (k = 0 ∧ zero = true)) : nowS zero S cut (k + 1) = copyF (nowS zero S cut k) 0 (cut k) (S k) := if_neg h
theorem wholeS_skip (zero : Bool) (S : Nat → Nat → Nat) (s : Nat) (h : zero = true) : wholeS zero S s 1 = wholeS zero S s 0 := if_pos ⟨rfl, h⟩
theorem wholeS_step {zero : Bool} {S : Nat → Nat → Nat} {s k : Nat} (h : ¬ (k = 0 ∧ zero = true)) : wholeS zero S s (k + 1) = wholeS zero S s k ++ [.string (strF (S k) s)] := if_neg h

theorem wholeS_len (zero : Bool) (S : Nat → Nat → Nat) (s : Nat) : ∀ k, (wholeS zero S s k).length ≤ k
  | 0 => Nat.le_refl _
  | k + 1 => by
    have := wholeS_len zero S s k
    unfold wholeS
    split
    · simp
    · rw [List.length_append]; simp; omega

theorem wholeS_mem (zero : Bool) (S : Nat → Nat → Nat) (s : Nat) (v : Value) : ∀ k, v ∈ wholeS zero S s k ↔ ∃ r, r < k ∧ ¬ (r = 0 ∧ zero = true) ∧ v = .string (strF (S r) s)
  | 0 => by
    unfold wholeS
    constructor
    · intro h; cases h
    · rintro ⟨r, h, _⟩; omega
  | k + 1 => by
    have ih := wholeS_mem zero S s v k
    by_cases h : k = 0 ∧ zero = true
    · unfold wholeS
      rw [if_pos h]
      constructor
      · intro q; cases q
      · rintro ⟨r, h1, h2, _⟩
        exact absurd ⟨by omega, h.2⟩ h2
    · rw [wholeS_step h, List.mem_append, ih, List.mem_singleton]
      constructor
      · rintro (⟨r, h1, h2, h3⟩ | h3)
        · exact ⟨r, by omega, h2, h3⟩
        · exact ⟨k, by omega, h, h3⟩
      · rintro ⟨r, h1, h2, h3⟩
        rcases Nat.lt_or_ge r k with q | q
        · exact .inl ⟨r, q, h2, h3⟩
        · obtain rfl : r = k := by omega
          exact .inr h3

theorem headF_lt (v i : Nat) : headF v i < 256 := by
  have := leF_lt v i
  unfold headF
  split <;> omega
theorem secF_lt {m v n : Nat} {G : Nat → Nat} (hv : v < 18446744073709551616) (hG : ∀ j, j < n → G j < 256) (i : Nat) : secF m v n G i < 256 := by
  unfold secF
  rw [pairF_at hv]
  split
  · exact headF_lt _ _
  · unfold putF
    split
    · exact Nat.mod_lt _ (by omega)
    · unfold bodyF copyF
      split
      · exact hG _ (by omega)
      · rw [pairF_at hv]
        split
        · exact headF_lt _ _
        · unfold zeroF; omega

/-- What stands there at the end is a sector just where it is one of those that were written. -/
theorem torn_end {s m : Nat} {zero : Bool} {mk : Nat → Int} {nn : Nat → Nat} {F : Nat → Nat → Nat} {cut : Nat → Nat} (h1 : m + 20 ≤ s) (h2 : s ≤ m + 20) (hm : 44 ≤ m) (hc0 : cut 0 = s)
    (hv : ∀ j, j < 3 → ¬ (j = 0 ∧ zero = true) → 1 ≤ mk j ∧ mk j ≤ 4611686018427387904) (n01 : mk 0 ≠ mk 1) (n02 : mk 0 ≠ mk 2) (n12 : mk 1 ≠ mk 2)
    (hT : ∀ i, i < s → nowS zero (fun k => secF m (mk k).toNat (nn k) (F k)) cut 3 i < 256)
    (hS : ∀ r, r < 3 → ¬ (r = 0 ∧ zero = true) → ∀ i, i < s → secF m (mk r).toNat (nn r) (F r) i < 256) :
    okP (nowS zero (fun k => secF m (mk k).toNat (nn k) (F k)) cut 3) m ↔ ∃ r, r < 3 ∧ ¬ (r = 0 ∧ zero = true) ∧ ∀ i, i < s → nowS zero (fun k => secF m (mk k).toNat (nn k) (F k)) cut 3 i = secF m (mk r).toNat (nn r) (F r) i := by
  constructor
  · intro hok
    have e : nowS zero (fun k => secF m (mk k).toNat (nn k) (F k)) cut 3 = tornF (nowS zero (fun k => secF m (mk k).toNat (nn k) (F k)) cut 1) (secF m (mk 1).toNat (nn 1) (F 1)) (secF m (mk 2).toNat (nn 2) (F 2)) (cut 1) (cut 2) := by
      rw [nowS_step (by omega), nowS_step (by omega)]
      rfl
    rw [e] at hok hT ⊢
    have v1 := hv 1 (by omega) (by omega)
    have v2 := hv 2 (by omega) (by omega)
    have b0 : zero = false → ∀ i, i < s → nowS zero (fun k => secF m (mk k).toNat (nn k) (F k)) cut 1 i = secF m (mk 0).toNat (nn 0) (F 0) i := fun hz i hi => by
      rw [nowS_step (by rw [hz]; simp), copyF_in (by omega) (by rw [hc0]; omega), Nat.sub_zero]
    have m0 : zero = false → Marked (nowS zero (fun k => secF m (mk k).toNat (nn k) (F k)) cut 1) m (mk 0).toNat := fun hz => by
      have v0 := hv 0 (by omega) (by rw [hz]; simp)
      have := sec_marked (m := m) (v := (mk 0).toNat) (n := nn 0) (G := F 0) (by omega) (by omega)
      exact ⟨fun i hi => (b0 hz i (by omega)).trans (this.1 i hi), fun i hi => (b0 hz _ (by omega)).trans (this.2 i hi)⟩
    have z0 : zero = true → ∀ i, nowS zero (fun k => secF m (mk k).toNat (nn k) (F k)) cut 1 i = 0 := fun hz i => by
      rw [nowS_skip _ _ _ hz]
      rfl
    have w0 : zero = false → (mk 0).toNat ≤ 4611686018427387904 := fun hz => by
      have v0 := hv 0 (by omega) (by rw [hz]; simp)
      omega
    rcases torn_one (zero := zero) (M0 := if zero then 0 else (mk 0).toNat) hm (fun hz => by rw [if_neg (show ¬ zero = true by rw [hz]; simp)]; exact m0 hz) z0 (sec_marked (by omega) (by omega)) (sec_marked (by omega) (by omega))
      (by cases zero with
        | true => simp
        | false => exact w0 rfl) (by omega) (by omega)
      (fun hz => by have v0 := hv 0 (by omega) (by rw [hz]; simp); rw [hz]; simp; omega)
      (fun hz => by have v0 := hv 0 (by omega) (by rw [hz]; simp); rw [hz]; simp; omega) (by omega) (fun i hi => hT i (by omega)) hok with h | h | ⟨hz, h⟩
    · exact ⟨2, by omega, by omega, fun i hi => h i (by omega)⟩
    · exact ⟨1, by omega, by omega, fun i hi => h i (by omega)⟩
    · exact ⟨0, by omega, by rw [hz]; simp, fun i hi => (h i (by omega)).trans (b0 hz i hi)⟩
  · rintro ⟨r, hr, hz, h⟩
    have hvr := hv r hr hz
    exact okP_congr hm (fun i hi => (h i (by omega)).symm) (sec_ok hm (by omega) (by omega) fun i hi => hS r hr hz i (by omega))
end Go.Proofs.Ytdbfmllcapikkaa
/- Acts in memory; light. -/
namespace Go.Proofs.Ytdbfmllcapikkaa
open Go.RowKit
set_option linter.unusedVariables false

/-- An act in memory. -/
structure ActAt (w : World) (b o : Nat) (x : ActD) : Prop where
  c0 : w.cell? ⟨b, o, none⟩ = some (.int .i64 x.kind)
  c1 : w.cell? ⟨b, o + 1, none⟩ = some (.int .i64 x.at_)
  c2 : w.cell? ⟨b, o + 2, none⟩ = some (.int .i64 x.len)
  c3 : w.cell? ⟨b, o + 3, none⟩ = some (.int .u8 (x.b : Int))
  c4 : w.cell? ⟨b, o + 4, none⟩ = some (.slice x.fA x.fL x.fC)
theorem ActAt.keep {w w' : World} {b o : Nat} {x : ActD} (h : ActAt w b o x) (e : w'.heap[b]? = w.heap[b]?) : ActAt w' b o x :=
  have k : ∀ i, w'.cell? ⟨b, i, none⟩ = w.cell? ⟨b, i, none⟩ := fun i => World.cell?_of_block (w := w) (a := ⟨b, i, none⟩) e
  ⟨(k _).trans h.c0, (k _).trans h.c1, (k _).trans h.c2, (k _).trans h.c3, (k _).trans h.c4⟩
/-- A slice of acts that can be read. -/
def Acts (w : World) (A : Option Addr) (n : Nat) (X : Nat → ActD) : Prop :=
  n ≤ 9223372036854775807 ∧ (∀ i, i < n → (X i).ok w) ∧ (0 < n → ∃ b o, A = some ⟨b, o, none⟩ ∧ ∀ i, i < n → ActAt w b (o + i * 5) (X i))
def lightB (n : Nat) (X : Nat → ActD) : Bool := decide (n ≤ 40 ∧ ∀ i, i < n → (X i).fL ≤ 60)

end Go.Proofs.Ytdbfmllcapikkaa
/- Plain facts on a disk's state. -/
namespace Go.Proofs.Ytdbfmllcapikkaa
set_option linter.unusedVariables false

theorem nowTo_out (f : Nat → Nat → Nat) (j : Nat) : ∀ (l : List (Nat × (Nat → Nat))) (now : Nat → Nat → Nat), (∀ x ∈ l, x.1 ≠ j) → nowTo f now l j = now j
  | [], _, _ => rfl
  | x :: r, now, h => by
    show nowTo f (upd now x.1 (f x.1)) r j = now j
    rw [nowTo_out f j r _ fun y hy => h y (List.mem_cons_of_mem _ hy)]
    unfold upd
    rw [if_neg (fun e => h x (List.mem_cons_self ..) e.symm)]
theorem nowTo_keeps (f : Nat → Nat → Nat) (j : Nat) : ∀ (l : List (Nat × (Nat → Nat))) (now : Nat → Nat → Nat), now j = f j → nowTo f now l j = f j
  | [], _, h => h
  | x :: r, now, h => by
    refine nowTo_keeps f j r (upd now x.1 (f x.1)) ?_
    unfold upd
    by_cases e : j = x.1
    · rw [if_pos e, e]
    · rw [if_neg e, h]
theorem nowTo_in (f : Nat → Nat → Nat) (j : Nat) : ∀ (l : List (Nat × (Nat → Nat))) (now : Nat → Nat → Nat), (∃ x ∈ l, x.1 = j) → nowTo f now l j = f j
  | [], _, h => by obtain ⟨_, h, _⟩ := h; cases h
  | x :: r, now, h => by
    show nowTo f (upd now x.1 (f x.1)) r j = f j
    by_cases e : x.1 = j
    · refine nowTo_keeps f j r _ ?_
      unfold upd
      rw [if_pos e.symm, e]
    · refine nowTo_in f j r _ ?_
      obtain ⟨y, hy, hj⟩ := h
      rcases List.mem_cons.1 hy with rfl | hy
      · exact absurd hj e
      · exact ⟨y, hy, hj⟩
theorem fastTo_out (j : Nat) : ∀ (l : List (Nat × (Nat → Nat))) (f : Nat → Nat → Nat), (∀ x ∈ l, x.1 ≠ j) → fastTo f l j = f j
  | [], _, _ => rfl
  | x :: r, f, h => by
    show fastTo (upd f x.1 x.2) r j = f j
    rw [fastTo_out j r _ fun y hy => h y (List.mem_cons_of_mem _ hy)]
    unfold upd
    rw [if_neg (fun e => h x (List.mem_cons_self ..) e.symm)]
theorem fastTo_snoc (f : Nat → Nat → Nat) (l : List (Nat × (Nat → Nat))) (x : Nat × (Nat → Nat)) : fastTo f (l ++ [x]) = upd (fastTo f l) x.1 x.2 := by
  unfold fastTo
  rw [List.foldl_append]
  rfl
theorem crashTo_out (S : DS) (fa : Nat → Int) (L j : Nat) (h : ∀ x ∈ S.loose, x.1 ≠ j) : ∀ k, (crashTo S fa L k).1 j = S.fast j
  | 0 => rfl
  | k + 1 => by
    have ih := crashTo_out S fa L j h k
    simp only [crashTo]
    split
    · exact ih
    · rename_i x hx
      have hm : x.1 ≠ j := h x (List.mem_of_getElem? hx)
      have hu : ∀ G : Nat → Nat, upd (crashTo S fa L k).1 x.1 G j = (crashTo S fa L k).1 j := fun G => by
        unfold upd
        rw [if_neg (fun e => hm e.symm)]
      split
      · exact (hu _).trans ih
      · split
        · exact (hu _).trans ih
        · exact ih

section
variable (S : DS) (x : ActD)
theorem flushD_N : (flushD S).N = S.N := by unfold flushD flushS; split <;> (try split) <;> simp [strikeS_N]
theorem flushD_size : (flushD S).size = S.size := by unfold flushD flushS; split <;> (try split) <;> simp [strikeS_size]
theorem putS_N (a : Int) (n : Nat) (F : Nat → Nat) : (putS S a n F).N = S.N := by unfold putS; split <;> simp [strikeS_N, keepS]
theorem putS_size (a : Int) (n : Nat) (F : Nat → Nat) : (putS S a n F).size = S.size := by unfold putS; split <;> simp [strikeS_size, keepS]
theorem didS_N : (didS S x).N = S.N := by
  unfold didS
  split
  · exact flushD_N S
  · split
    · rfl
    · split
      · rfl
      · split
        · rfl
        · exact putS_N ..
theorem didS_size : (didS S x).size = S.size := by
  unfold didS
  split
  · exact flushD_size S
  · split
    · rfl
    · split
      · rfl
      · split
        · rfl
        · exact putS_size ..
theorem didS_len : (didS S x).loose.length ≤ S.loose.length + 1 := by
  unfold didS
  split
  · unfold flushD flushS; split
    · omega
    · split
      · rw [strikeS_loose]; omega
      · simp
  · split
    · omega
    · split
      · simp [armS]
      · split
        · simp [crashS]
        · unfold putS; split
          · omega
          · rw [strikeS_loose]; simp [keepS]
end

/-- What is read is what was written last, loose or fast. -/
def NowInv (S : DS) : Prop := ∀ j, S.now j = fastTo S.fast S.loose j
theorem NowInv.strike {S : DS} (h : NowInv S) : NowInv (strikeS S) := fun j => by rw [strikeS_now, strikeS_fast, strikeS_loose]; exact h j
theorem NowInv.keep {S : DS} (h : NowInv S) (k : Nat) (F : Nat → Nat) : NowInv (keepS S k F) := fun j => by
  show upd S.now k F j = fastTo S.fast (S.loose ++ [(k, F)]) j
  rw [fastTo_snoc]
  unfold upd
  by_cases e : j = k
  · rw [if_pos e, if_pos e]
  · rw [if_neg e, if_neg e]; exact h j
theorem NowInv.flush {S : DS} (h : NowInv S) : NowInv (flushS S) := fun j => by
  show (strikeS S).now j = fastTo (fastTo S.fast S.loose) [] j
  rw [strikeS_now]
  exact h j
theorem NowInv.crash {S : DS} (h : NowInv S) (fa : Nat → Int) (L : Nat) : NowInv (crashS S fa L) := fun j => by
  show nowTo (crashTo S fa L S.loose.length).1 S.now S.loose j = (crashTo S fa L S.loose.length).1 j
  by_cases e : ∃ x ∈ S.loose, x.1 = j
  · exact nowTo_in _ j _ _ e
  · have e2 : ∀ x ∈ S.loose, x.1 ≠ j := fun x hx q => e ⟨x, hx, q⟩
    rw [nowTo_out _ j _ _ e2, crashTo_out S fa L j e2, h j, fastTo_out j _ _ e2]
theorem NowInv.did {S : DS} (h : NowInv S) (x : ActD) : NowInv (didS S x) := by
  unfold didS
  split
  · unfold flushD; split
    · exact h
    · split
      · exact h.strike
      · exact h.flush
  · split
    · exact h
    · split
      · exact h
      · split
        · exact h.crash _ _
        · unfold putS; split
          · exact h
          · exact (h.keep _ _).strike
theorem NowInv.new (N size : Nat) : NowInv (newS N size) := fun _ => rfl

/-- Sector k holds F, fast, and nothing loose is for it. -/
structure Fast (k : Nat) (F : Nat → Nat) (S : DS) : Prop where
  l : ∀ x ∈ S.loose, x.1 ≠ k
  f : S.fast k = F
  n : S.now k = F
section
variable {k : Nat} {F : Nat → Nat} {S : DS}
theorem Fast.strike (h : Fast k F S) : Fast k F (strikeS S) := ⟨by rw [strikeS_loose]; exact h.l, by rw [strikeS_fast]; exact h.f, by rw [strikeS_now]; exact h.n⟩
theorem Fast.keep (h : Fast k F S) (j : Nat) (G : Nat → Nat) (hj : j ≠ k) : Fast k F (keepS S j G) := by
  refine ⟨fun x hx => ?_, h.f, ?_⟩
  · rcases List.mem_append.1 (show x ∈ S.loose ++ [(j, G)] from hx) with q | q
    · exact h.l x q
    · rw [List.mem_singleton.1 q]; exact hj
  · show upd S.now j G k = F
    unfold upd
    rw [if_neg (fun e => hj e.symm)]
    exact h.n
theorem Fast.flush (h : Fast k F S) : Fast k F (flushS S) := by
  refine ⟨fun x hx => ?_, ?_, ?_⟩
  · cases hx
  · show fastTo S.fast S.loose k = F
    rw [fastTo_out k _ _ h.l]; exact h.f
  · show (strikeS S).now k = F
    rw [strikeS_now]; exact h.n
theorem Fast.crash (h : Fast k F S) (fa : Nat → Int) (L : Nat) : Fast k F (crashS S fa L) := by
  refine ⟨fun x hx => ?_, ?_, ?_⟩
  · cases hx
  · exact (crashTo_out S fa L k h.l _).trans h.f
  · exact (nowTo_out _ k _ _ h.l).trans h.n
theorem Fast.did (h : Fast k F S) (x : ActD) (hx : x.at_ ≠ k) : Fast k F (didS S x) := by
  unfold didS
  split
  · unfold flushD; split
    · exact h
    · split
      · exact h.strike
      · exact h.flush
  · split
    · exact h
    · split
      · exact ⟨h.l, h.f, h.n⟩
      · split
        · exact h.crash _ _
        · unfold putS; split
          · exact h
          · rename_i q
            have r0 : reachI S x.at_ = 0 := by
              by_cases e : reachI S x.at_ = 0
              · exact e
              · exact absurd (.inl e) q
            have := reach_in r0
            exact (h.keep _ _ (by omega)).strike
theorem Fast.of_flush (h : NowInv S) (k : Nat) : Fast k (S.now k) (flushS S) := ⟨fun x hx => (by cases hx), (h k).symm, (by show (strikeS S).now k = _; rw [strikeS_now])⟩
end

/-- Acts, one behind the other; all but those at one place. -/
def runS (S0 : DS) (X : Nat → ActD) : Nat → DS
  | 0 => S0
  | k + 1 => didS (runS S0 X k) (X k)
def runF (S0 : DS) (X : Nat → ActD) (at_ : Nat) : Nat → DS
  | 0 => S0
  | k + 1 => if (X k).at_ = at_ then runF S0 X at_ k else didS (runF S0 X at_ k) (X k)
theorem runS_N (S0 : DS) (X : Nat → ActD) : ∀ k, (runS S0 X k).N = S0.N ∧ (runS S0 X k).size = S0.size ∧ (runS S0 X k).loose.length ≤ S0.loose.length + k
  | 0 => ⟨rfl, rfl, Nat.le_refl _⟩
  | k + 1 => by
    obtain ⟨h1, h2, h3⟩ := runS_N S0 X k
    have := didS_len (runS S0 X k) (X k)
    exact ⟨(didS_N _ _).trans h1, (didS_size _ _).trans h2, by show (didS _ _).loose.length ≤ _; omega⟩
theorem runF_N (S0 : DS) (X : Nat → ActD) (a : Nat) : ∀ k, (runF S0 X a k).N = S0.N ∧ (runF S0 X a k).size = S0.size ∧ (runF S0 X a k).loose.length ≤ S0.loose.length + k
  | 0 => ⟨rfl, rfl, Nat.le_refl _⟩
  | k + 1 => by
    obtain ⟨h1, h2, h3⟩ := runF_N S0 X a k
    have := didS_len (runF S0 X a k) (X k)
    unfold runF
    split
    · exact ⟨h1, h2, by omega⟩
    · exact ⟨(didS_N _ _).trans h1, (didS_size _ _).trans h2, by omega⟩
theorem runS_inv {S0 : DS} (h : NowInv S0) (X : Nat → ActD) : ∀ k, NowInv (runS S0 X k)
  | 0 => h
  | k + 1 => (runS_inv h X k).did _
theorem runF_fast {S0 : DS} {a : Nat} {F : Nat → Nat} (h : Fast a F S0) (X : Nat → ActD) : ∀ k, Fast a F (runF S0 X a k)
  | 0 => h
  | k + 1 => by
    have ih := runF_fast h X k
    unfold runF
    split
    · exact ih
    · rename_i q
      exact ih.did _ q
end Go.Proofs.Ytdbfmllcapikkaa
/- Plain facts on slots: what a written one is read as; torn ones. -/
namespace Go.Proofs.Ytdbfmllcapikkaa
open Go.RowKit
set_option linter.unusedVariables false
set_option linter.unusedSimpArgs false

/-- The sector of a change in a slot of an epoch. -/
abbrev chSec (sz ep i page : Nat) (last : Bool) (G : Nat → Nat) : Nat → Nat := secF (sz - 20) (mkN ep i) (9 + (sz - 45)) (loadF page last G)
theorem mkN_lt {ep i : Nat} (he : ep ≤ 1099511627776) (hi : i ≤ 1048576) : 1 ≤ mkN ep i ∧ mkN ep i ≤ 4611686018427387904 := by unfold mkN; omega
theorem mkN_div {ep i : Nat} (hi : i ≤ 1048576) : mkN ep i / 2097152 = ep := by unfold mkN; omega
section
variable {sz ep i page : Nat} {last : Bool} {G : Nat → Nat}
theorem chSec_lt (he : ep ≤ 1099511627776) (hi : i ≤ 1048576) (hG : ∀ j, G j < 256) (k : Nat) : chSec sz ep i page last G k < 256 :=
  secF_lt (by have := (mkN_lt (i := i) he hi).2; omega) (loadF_lt fun j _ => hG j) k
theorem chSec_ok (hs : 64 ≤ sz) (he : ep ≤ 1099511627776) (hi : i ≤ 1048576) (hG : ∀ j, G j < 256) : okP (chSec sz ep i page last G) (sz - 20) :=
  sec_ok (by omega) (mkN_lt he hi).1 (mkN_lt he hi).2 fun k _ => chSec_lt he hi hG k
theorem chSec_mark (hs : 64 ≤ sz) (he : ep ≤ 1099511627776) (hi : i ≤ 1048576) : leTo (chSec sz ep i page last G) 8 = mkN ep i :=
  sec_mark (by have := (mkN_lt (i := i) he hi).2; omega) (by omega)
theorem chSec_epoch (hs : 64 ≤ sz) (he1 : 1 ≤ ep) (he : ep ≤ 1099511627776) (hi : i ≤ 1048576) (hG : ∀ j, G j < 256) : epochN (chSec sz ep i page last G) (sz - 20) i = ep := by
  have q := chSec_mark (page := page) (last := last) (G := G) hs he hi
  have := epoch_yes (chSec_ok (page := page) (last := last) hs he hi hG) (i := i) (by rw [q, mkN_div hi]; exact ⟨he1, he⟩) (by rw [q, mkN_div hi])
  rw [this, q, mkN_div hi]
theorem chSec_load (hs : 64 ≤ sz) (he : ep ≤ 1099511627776) (hi : i ≤ 1048576) {j : Nat} (hj : j < sz - 36) : chSec sz ep i page last G (16 + j) = loadF page last G j := by
  have := secF_load (m := sz - 20) (v := mkN ep i) (n := 9 + (sz - 45)) (G := loadF page last G) (by have := (mkN_lt (i := i) he hi).2; omega) (i := 16 + j) (by omega) (by omega) (by omega)
  rw [Nat.add_sub_cancel_left] at this
  exact this
theorem chSec_page (hs : 64 ≤ sz) (he : ep ≤ 1099511627776) (hi : i ≤ 1048576) (hp : page ≤ 2147483647) : pageI (chSec sz ep i page last G) = page := by
  have e : leTo (fun j => chSec sz ep i page last G (16 + j)) 8 = page := by
    have e8 : (256 : Nat) ^ 8 = 18446744073709551616 := by decide
    refine leTo_eq (by rw [e8]; omega) fun j hj => ?_
    rw [chSec_load hs he hi (by omega)]
    unfold loadF
    rw [if_pos hj]
  unfold pageI takeI
  rw [e]
  exact wrap_small (by omega)
theorem chSec_flag (hs : 64 ≤ sz) (he : ep ≤ 1099511627776) (hi : i ≤ 1048576) : flagN (chSec sz ep i page last G) = if last then 1 else 0 := by
  unfold flagN
  rw [chSec_load (j := 8) hs he hi (by omega)]
  unfold loadF
  rw [if_neg (by omega), if_pos rfl]
theorem chSec_bytes (hs : 64 ≤ sz) (he : ep ≤ 1099511627776) (hi : i ≤ 1048576) {j : Nat} (hj : j < sz - 45) : chSec sz ep i page last G (25 + j) = G j := by
  rw [show 25 + j = 16 + (9 + j) by omega, chSec_load hs he hi (by omega)]
  unfold loadF
  rw [if_neg (by omega), if_neg (by omega), Nat.add_sub_cancel_left]
theorem chSec_ch (hs : 64 ≤ sz) (he1 : 1 ≤ ep) (he : ep ≤ 1099511627776) (hi : i ≤ 1048576) (hG : ∀ j, G j < 256) (hp : page ≤ 2147483647) : isCh (chSec sz ep i page last G) (sz - 20) i ep :=
  ⟨chSec_epoch hs he1 he hi hG, by rw [chSec_page hs he hi hp]; omega, by rw [chSec_page hs he hi hp]; omega, by rw [chSec_flag hs he hi]; split <;> omega⟩
end
/-- A slot's bytes count alone. -/
theorem epoch_congr {F H : Nat → Nat} {m i : Nat} (hm : 44 ≤ m) (h : ∀ k, k < m + 20 → F k = H k) : epochN F m i = epochN H m i := by
  have e : leTo F 8 = leTo H 8 := leTo_congr fun k hk => h k (by omega)
  have k : okP F m ↔ okP H m := ⟨okP_congr hm h, okP_congr hm fun k hk => (h k hk).symm⟩
  unfold epochN
  rw [e]
  by_cases q : okP F m
  · rw [if_pos q, if_pos (k.1 q)]
  · rw [if_neg q, if_neg fun z => q (k.2 z)]
theorem ch_congr {F H : Nat → Nat} {m i ep : Nat} (hm : 44 ≤ m) (h : ∀ k, k < m + 20 → F k = H k) : isCh F m i ep ↔ isCh H m i ep := by
  have e1 : pageI F = pageI H := by unfold pageI takeI; rw [leTo_congr fun k hk => h (16 + k) (by omega)]
  have e2 : flagN F = flagN H := h 24 (by omega)
  unfold isCh
  rw [epoch_congr hm h, e1, e2]
theorem epoch_zero {F : Nat → Nat} {m i : Nat} (hm : 44 ≤ m) (h : ∀ k, k < m + 20 → F k = 0) : epochN F m i = 0 := by
  refine epoch_bad fun q => ?_
  have : leTo F 8 = 0 := by
    have e : leTo F 8 = leTo (fun _ => 0) 8 := leTo_congr fun k hk => h k (by omega)
    rw [e]; rfl
  have := q.1.1
  omega
/-- The first piece of a sector upon zeros, or upon a sector of another mark: what is read as a sector is one of them. -/
theorem torn_new {m M0 M1 c : Nat} {base S1 : Nat → Nat} {zero : Bool} (hm : 44 ≤ m)
    (h0 : zero = false → Marked base m M0) (hz : zero = true → ∀ i, i < m + 20 → base i = 0) (h1 : Marked S1 m M1)
    (v0 : M0 ≤ 4611686018427387904) (v1 : M1 ≤ 4611686018427387904) (n01 : zero = false → M0 ≠ M1)
    (hF : ∀ i, i < m + 20 → copyF base 0 c S1 i < 256) (hok : okP (copyF base 0 c S1) m) :
    (∀ i, i < m + 20 → copyF base 0 c S1 i = S1 i) ∨ (zero = false ∧ ∀ i, i < m + 20 → copyF base 0 c S1 i = base i) := by
  obtain ⟨hh, ht⟩ := ok_head hm hF hok
  have hv2 := hok.1.2
  generalize leTo (copyF base 0 c S1) 8 = v at hh ht hv2
  have hv : v < 18446744073709551616 := by omega
  have at_ : ∀ i, copyF base 0 c S1 i = if i < c then S1 i else base i := fun i => by
    unfold copyF
    simp only [Nat.zero_le, true_and, Nat.zero_add, Nat.sub_zero]
  simp only [at_] at hh ht ⊢
  by_cases d : m + 12 ≤ c
  · have e1 : v = M1 := low_eq hv (by omega) fun i hi => by
      have := ht i (by omega)
      rw [if_pos (by omega)] at this
      rw [this, h1.2 i (by omega)]
    refine .inl fun i hi => ?_
    by_cases y : i < c
    · rw [if_pos y]
    · obtain ⟨k, rfl⟩ : ∃ k, i = m + 4 + k := ⟨i - (m + 4), by omega⟩
      rw [← ht k (by omega), e1, h1.2 k (by omega)]
  · have base_high : zero = false ∧ v = M0 := by
      have h : ∀ i, 8 ≤ i → i < 16 → headF v i = base (m + 4 + i) := fun i x y => by
        have := ht i y
        rw [if_neg (by omega)] at this
        exact this
      cases zero with
      | true => exact absurd (fun i a b => (h i a b).trans (hz rfl _ (by omega))) (fun q => high_zero hv2 q)
      | false => exact ⟨rfl, high_eq hv (by omega) fun i a b => (h i a b).trans ((h0 rfl).2 i b)⟩
    by_cases f : 16 ≤ c
    · have e1 : v = M1 := low_eq hv (by omega) fun i hi => by
        have := hh i (by omega)
        rw [if_pos (by omega)] at this
        rw [this, h1.1 i (by omega)]
      exact absurd (base_high.2.symm.trans e1) (n01 base_high.1)
    · refine .inr ⟨base_high.1, fun i hi => ?_⟩
      by_cases x : i < 16
      · rw [← hh i x, base_high.2, (h0 base_high.1).1 i x]
      · rw [if_neg (by omega)]
/-- What a slot held ahead of an epoch: zeros, or a sector of an elder epoch and that slot. -/
def Elder (sz ep i : Nat) (F : Nat → Nat) : Prop := (∀ k, k < sz → F k = 0) ∨ ∃ e, 1 ≤ e ∧ e < ep ∧ (∀ k, k < sz → F k < 256) ∧ Marked F (sz - 20) (mkN e i)
theorem mkN_ne {e ep i : Nat} (h : e < ep) : mkN e i ≠ mkN ep i := by unfold mkN; omega
theorem leTo_marked {F : Nat → Nat} {m M : Nat} (hM : M ≤ 4611686018427387904) (h : Marked F m M) : leTo F 8 = M :=
  leTo_head (v := M) (by omega) fun i hi => (h.1 i (by omega)).symm
theorem epoch_or (F : Nat → Nat) (m i : Nat) : epochN F m i = 0 ∨ epochN F m i = leTo F 8 / 2097152 := by
  unfold epochN
  split
  · split
    · exact .inr rfl
    · exact .inl rfl
  · exact .inl rfl
theorem elder_epoch {sz ep i e' : Nat} {F : Nat → Nat} (hs : 64 ≤ sz) (he : ep ≤ 1099511627776) (hi : i ≤ 1048576) (h : Elder sz ep i F) (h1 : ep ≤ e') (h0 : 1 ≤ e') : epochN F (sz - 20) i ≠ e' := by
  rcases h with h | ⟨e, h2, h3, h4, h5⟩
  · rw [epoch_zero (by omega) fun k hk => h k (by omega)]
    omega
  · rcases epoch_or F (sz - 20) i with q | q
    · omega
    · rw [q, leTo_marked (mkN_lt (by omega) hi).2 h5, mkN_div hi]
      omega
theorem elder_no {sz ep i e' : Nat} {F : Nat → Nat} (hs : 64 ≤ sz) (he : ep ≤ 1099511627776) (hi : i ≤ 1048576) (h : Elder sz ep i F) (h1 : ep ≤ e') (h0 : 1 ≤ e') : ¬ isCh F (sz - 20) i e' := fun q => elder_epoch hs he hi h h1 h0 q.1
theorem elder_sec {sz e ep i page : Nat} {last : Bool} {G : Nat → Nat} (hs : 64 ≤ sz) (he : e ≤ 1099511627776) (h1 : 1 ≤ e) (hep : e < ep) (hi : i ≤ 1048576) (hG : ∀ j, G j < 256) : Elder sz ep i (chSec sz e i page last G) :=
  .inr ⟨e, h1, hep, fun k _ => chSec_lt he hi hG k, sec_marked (by have := (mkN_lt (i := i) he hi).2; omega) (by omega)⟩
/-- What a torn write over an elder slot is read as, in the newer epoch: all of it, or none. -/
theorem torn_ch {sz ep i page c : Nat} {last : Bool} {G base : Nat → Nat} (hs : 64 ≤ sz) (h1 : 1 ≤ ep) (he : ep ≤ 1099511627776) (hi : i ≤ 1048576) (hG : ∀ j, G j < 256) (hb : Elder sz ep i base) (hch : isCh (copyF base 0 c (chSec sz ep i page last G)) (sz - 20) i ep) :
    ∀ k, k < sz → copyF base 0 c (chSec sz ep i page last G) k = chSec sz ep i page last G k := by
  have hlt : ∀ k, k < sz → copyF base 0 c (chSec sz ep i page last G) k < 256 := fun k hk => by
    unfold copyF
    split
    · exact chSec_lt he hi hG _
    · rcases hb with h | ⟨e, _, _, h, _⟩
      · rw [h k hk]; omega
      · exact h k hk
  have hok : okP (copyF base 0 c (chSec sz ep i page last G)) (sz - 20) := Classical.byContradiction fun q => by
    have := hch.1
    rw [epoch_bad q] at this
    omega
  have hm1 : Marked (chSec sz ep i page last G) (sz - 20) (mkN ep i) := sec_marked (by have := (mkN_lt (i := i) he hi).2; omega) (by omega)
  have hmm := mkN_lt (i := i) he hi
  rcases hb with h | ⟨e, h2, h3, h4, h5⟩
  · rcases torn_new (M0 := 0) (zero := true) (m := sz - 20) (by omega) (fun q => by cases q) (fun _ k hk => h k (by omega)) hm1 (by omega) hmm.2 (fun q => by cases q) (fun k hk => hlt k (by omega)) hok with q | ⟨q, _⟩
    · exact fun k hk => q k (by omega)
    · cases q
  · rcases torn_new (M0 := mkN e i) (zero := false) (m := sz - 20) (by omega) (fun _ => h5) (fun q => by cases q) hm1 (mkN_lt (by omega) hi).2 hmm.2 (fun _ => mkN_ne h3) (fun k hk => hlt k (by omega)) hok with q | ⟨_, q⟩
    · exact fun k hk => q k (by omega)
    · refine absurd hch ?_
      rw [ch_congr (by omega) q]
      exact elder_no hs (by omega) hi (.inr ⟨e, h2, h3, h4, h5⟩) (Nat.le_refl _) h1
/-- A torn write over an elder slot, or zeros, is no slot of a still newer epoch. -/
theorem torn_elder {sz e ep i page c : Nat} {last : Bool} {G base : Nat → Nat} (hs : 64 ≤ sz) (h1 : 1 ≤ e) (hep : e < ep) (he : ep ≤ 1099511627776) (hi : i ≤ 1048576) (hG : ∀ j, G j < 256) (hb : ∀ k, k < sz → base k = 0) :
    ¬ isCh (copyF base 0 c (chSec sz e i page last G)) (sz - 20) i ep := fun hch => by
  have hlt : ∀ k, k < sz → copyF base 0 c (chSec sz e i page last G) k < 256 := fun k hk => by
    unfold copyF
    split
    · exact chSec_lt (by omega) hi hG _
    · rw [hb k hk]; omega
  have hok : okP (copyF base 0 c (chSec sz e i page last G)) (sz - 20) := Classical.byContradiction fun q => by
    have := hch.1
    rw [epoch_bad q] at this
    omega
  have hm1 : Marked (chSec sz e i page last G) (sz - 20) (mkN e i) := sec_marked (by have := (mkN_lt (ep := e) (i := i) (by omega) hi).2; omega) (by omega)
  rcases torn_new (M0 := 0) (zero := true) (m := sz - 20) (by omega) (fun q => by cases q) (fun _ k hk => hb k (by omega)) hm1 (by omega) (mkN_lt (by omega) hi).2 (fun q => by cases q) (fun k hk => hlt k (by omega)) hok with q | ⟨q, _⟩
  · rw [ch_congr (by omega) q] at hch
    exact elder_no hs (by omega) hi (elder_sec (page := page) (last := last) hs (by omega) h1 hep hi hG) (Nat.le_refl _) (by omega) hch
  · cases q
end Go.Proofs.Ytdbfmllcapikkaa
/- A log as a machine, plain: what groups make of a disk, what a crash leaves of them. -/
namespace Go.Proofs.Ytdbfmllcapikkaa
open Go.RowKit
set_option linter.unusedVariables false
set_option linter.unusedSimpArgs false

/-- A log that goes on, on a disk that is up and has nothing loose. -/
structure Alive (f cn : Nat) (L : LS) : Prop where
  dd : L.dead = false
  dn : L.S.down = false
  lo : L.S.loose = []
  nf : ∀ j, L.S.now j = L.S.fast j
  nx : L.nx ≤ cn
  sz : 64 ≤ L.S.size ∧ L.S.size ≤ 4096
  N : f + cn ≤ L.S.N
/-- What k sectors, one behind the other, leave. -/
structure Wrote (a : Nat) (sec : Nat → Nat → Nat) (S : DS) (k : Nat) (T : DS) : Prop where
  lo : T.loose = S.loose ++ (List.range k).map fun j => (a + j, sec j)
  fast : T.fast = S.fast
  at_ : ∀ j, j < k → T.now (a + j) = sec j
  out : ∀ j, (∀ i, i < k → j ≠ a + i) → T.now j = S.now j
  size : T.size = S.size
  N : T.N = S.N
theorem Wrote.zero (a : Nat) (sec : Nat → Nat → Nat) (S : DS) : Wrote a sec S 0 S := ⟨by simp, rfl, fun j h => absurd h (by omega), fun _ _ => rfl, rfl, rfl⟩
theorem Wrote.keep {a k : Nat} {sec : Nat → Nat → Nat} {S T : DS} (h : Wrote a sec S k T) : Wrote a sec S (k + 1) (strikeS (keepS T (a + k) (sec k))) := by
  refine ⟨?_, ?_, fun j hj => ?_, fun j hj => ?_, ?_, ?_⟩
  · rw [strikeS_loose]
    show T.loose ++ [(a + k, sec k)] = _
    rw [h.lo, List.range_succ, List.map_append, List.append_assoc]
    rfl
  · rw [strikeS_fast]; exact h.fast
  · rw [strikeS_now]
    show upd T.now (a + k) (sec k) (a + j) = _
    unfold upd
    by_cases e : j = k
    · subst e; rw [if_pos rfl]
    · rw [if_neg (by omega)]; exact h.at_ j (by omega)
  · rw [strikeS_now]
    show upd T.now (a + k) (sec k) j = _
    unfold upd
    rw [if_neg (hj k (by omega))]
    exact h.out j fun i hi => hj i (by omega)
  · rw [strikeS_size]; exact h.size
  · rw [strikeS_N]; exact h.N
theorem put_in {S : DS} {a : Nat} {F : Nat → Nat} (hd : S.down = false) (ha : a < S.N) : putS S (a : Int) S.size F = strikeS (keepS S a F) ∧ putI S (a : Int) S.size F = strikeI (keepS S a F) := by
  have e : reachI S (a : Int) = 0 := by
    unfold reachI
    rw [if_neg (by rw [hd]; decide), if_neg (by omega)]
  unfold putS putI
  rw [if_neg (fun q => q.elim (fun z => z e) fun z => z rfl), if_neg (fun q => q e), if_neg (fun q => q rfl)]
  exact ⟨rfl, rfl⟩
theorem strike_zero {S : DS} (h : strikeI S = 0) (hd : S.down = false) : (strikeS S).down = false := by
  unfold strikeI at h
  unfold strikeS
  split
  · exact hd
  · split
    · rename_i q; rw [if_pos q] at h; cases h
    · exact hd
theorem strike_four {S : DS} (h : strikeI S ≠ 0) : strikeI S = 4 ∧ (strikeS S).down = true := by
  unfold strikeI at h ⊢
  unfold strikeS
  by_cases q : S.armed = 1
  · rw [if_pos q, if_neg (by omega), if_pos q]; exact ⟨rfl, rfl⟩
  · rw [if_neg q] at h; exact absurd rfl h
theorem wr_all {a : Nat} {sec : Nat → Nat → Nat} {S : DS} (hd : S.down = false) : ∀ k, a + k ≤ S.N → (∀ j, j < k → wrI a S.size sec S j = 0) → Wrote a sec S k (wrS a S.size sec S k) ∧ (wrS a S.size sec S k).down = false
  | 0, _, _ => ⟨Wrote.zero _ _ _, hd⟩
  | k + 1, hk, h => by
    obtain ⟨h1, h2⟩ := wr_all hd k (by omega) fun j hj => h j (by omega)
    have q := h k (by omega)
    have p := put_in (S := wrS a S.size sec S k) (a := a + k) (F := sec k) h2 (by rw [h1.N]; omega)
    rw [h1.size] at p
    have e1 : wrS a S.size sec S (k + 1) = strikeS (keepS (wrS a S.size sec S k) (a + k) (sec k)) := p.1
    have e2 : wrI a S.size sec S k = strikeI (keepS (wrS a S.size sec S k) (a + k) (sec k)) := p.2
    rw [e1]
    rw [e2] at q
    exact ⟨h1.keep, strike_zero q h2⟩
theorem wr_last {a k : Nat} {sec : Nat → Nat → Nat} {S : DS} (hd : S.down = false) (hk : a + (k + 1) ≤ S.N) (h : ∀ j, j < k → wrI a S.size sec S j = 0) (hne : wrI a S.size sec S k ≠ 0) : Wrote a sec S (k + 1) (wrS a S.size sec S (k + 1)) ∧ wrI a S.size sec S k = 4 := by
  obtain ⟨h1, h2⟩ := wr_all hd k (by omega) h
  have p := put_in (S := wrS a S.size sec S k) (a := a + k) (F := sec k) h2 (by rw [h1.N]; omega)
  rw [h1.size] at p
  have e1 : wrS a S.size sec S (k + 1) = strikeS (keepS (wrS a S.size sec S k) (a + k) (sec k)) := p.1
  have e2 : wrI a S.size sec S k = strikeI (keepS (wrS a S.size sec S k) (a + k) (sec k)) := p.2
  rw [e1]
  rw [e2] at hne ⊢
  exact ⟨h1.keep, (strike_four hne).1⟩
/-- A log whose disk went down while the k-th sector of a group was written, or behind all. -/
structure Fell (f ep : Nat) (L0 : LS) (n : Nat) (P : Nat → PutD) (L : LS) (k : Nat) : Prop where
  dd : L.dead = true
  k1 : 1 ≤ k
  kn : k ≤ n
  w : Wrote (f + L0.nx) (secL ep L0 n P) L0.S k L.S
theorem fastTo_get {j : Nat} : ∀ (l : List (Nat × (Nat → Nat))) (g : Nat → Nat → Nat) (F : Nat → Nat), (∀ x ∈ l, x.1 = j → x.2 = F) → (∃ x ∈ l, x.1 = j) → fastTo g l j = F
  | [], _, _, _, h => by obtain ⟨x, hx, _⟩ := h; cases hx
  | y :: l, g, F, h, he => by
    show fastTo (upd g y.1 y.2) l j = F
    by_cases q : ∃ x ∈ l, x.1 = j
    · exact fastTo_get l _ F (fun x hx => h x (List.mem_cons_of_mem _ hx)) q
    · rw [fastTo_out j l _ fun x hx e => q ⟨x, hx, e⟩]
      obtain ⟨x, hx, e⟩ := he
      rcases List.mem_cons.1 hx with rfl | hx
      · unfold upd
        rw [if_pos e.symm]
        exact h x List.mem_cons_self e
      · exact absurd ⟨x, hx, e⟩ q
theorem refuse_four (dead : Bool) (n : Nat) (X : Nat → ChD) (room left : Int) : refuseI dead n X room left ≠ 4 := by
  rcases refuse_or dead n X room left with h | h | h | h | h <;> rw [h] <;> decide
theorem app_dead {f cn ep n : Nat} {L : LS} {P : Nat → PutD} (h : L.dead = true) : appT f cn ep L n P = (21, L) := by
  have e : appR cn L n P = 21 := if_pos h
  rw [appT_no (by rw [e]; decide), e]
theorem fell_nx {f cn ep n : Nat} {L : LS} {P : Nat → PutD} (h0 : appR cn L n P = 0) (hd : (appT f cn ep L n P).2.dead = true) : (appT f cn ep L n P).2.nx = L.nx := by
  unfold appT at hd ⊢
  rw [if_neg (by rw [h0]; exact fun q => q rfl)] at hd ⊢
  split at hd
  · rfl
  · dsimp only at hd ⊢
    rw [if_neg (by simpa using hd)]
/-- What Append makes of a log that goes on. -/
theorem app_cases {f cn ep n : Nat} {L : LS} {P : Nat → PutD} (h : Alive f cn L) :
    (appR cn L n P ≠ 0 ∧ appR cn L n P ≠ 4 ∧ appT f cn ep L n P = (appR cn L n P, L)) ∨
    (appR cn L n P = 0 ∧ (appT f cn ep L n P).1 = 0 ∧ Alive f cn (appT f cn ep L n P).2 ∧ (appT f cn ep L n P).2.nx = L.nx + n ∧ (appT f cn ep L n P).2.S.size = L.S.size ∧ (appT f cn ep L n P).2.S.N = L.S.N ∧
      (∀ j, j < n → (appT f cn ep L n P).2.S.now (f + L.nx + j) = secL ep L n P j) ∧ (∀ j, (∀ i, i < n → j ≠ f + L.nx + i) → (appT f cn ep L n P).2.S.now j = L.S.now j)) ∨
    (appR cn L n P = 0 ∧ (appT f cn ep L n P).1 = 4 ∧ ∃ k, Fell f ep L n P (appT f cn ep L n P).2 k) := by
  by_cases h0 : appR cn L n P = 0
  · have h45 : 45 ≤ L.S.size := by have := h.sz.1; omega
    obtain ⟨z1, z2, z3, z4, z5⟩ := appR_zero h0 h45
    have hN := h.N
    by_cases hf : ∃ k, k < n ∧ wrI (f + L.nx) L.S.size (secL ep L n P) L.S k ≠ 0
    · -- the first that fails
      obtain ⟨k, hk, hke, hmin⟩ : ∃ k, k < n ∧ wrI (f + L.nx) L.S.size (secL ep L n P) L.S k ≠ 0 ∧ ∀ j, j < k → wrI (f + L.nx) L.S.size (secL ep L n P) L.S j = 0 := by
        obtain ⟨k, hk⟩ := hf
        induction k using Nat.strongRecOn with
        | _ k ih =>
          by_cases q : ∃ j, j < k ∧ wrI (f + L.nx) L.S.size (secL ep L n P) L.S j ≠ 0
          · obtain ⟨j, hj, hje⟩ := q
            exact ih j hj ⟨by omega, hje⟩
          · exact ⟨k, hk.1, hk.2, fun j hj => Classical.byContradiction fun z => q ⟨j, hj, z⟩⟩
      obtain ⟨w1, w2⟩ := wr_last h.dn (by omega) hmin hke
      rw [appT_at h0 hk hmin hke]
      exact .inr (.inr ⟨h0, w2, k + 1, rfl, by omega, by omega, w1⟩)
    · have hall : ∀ j, j < n → wrI (f + L.nx) L.S.size (secL ep L n P) L.S j = 0 := fun j hj => Classical.byContradiction fun q => hf ⟨j, hj, q⟩
      obtain ⟨w1, w2⟩ := wr_all h.dn n (by omega) hall
      rw [appT_all h0 hall]
      have eI : flushI (wrS (f + L.nx) L.S.size (secL ep L n P) L.S n) = strikeI (wrS (f + L.nx) L.S.size (secL ep L n P) L.S n) := if_neg (by rw [w2]; decide)
      rw [eI]
      by_cases hs : strikeI (wrS (f + L.nx) L.S.size (secL ep L n P) L.S n) = 0
      · have eD : flushD (wrS (f + L.nx) L.S.size (secL ep L n P) L.S n) = flushS (wrS (f + L.nx) L.S.size (secL ep L n P) L.S n) := by
          unfold flushD
          rw [if_neg (by rw [w2]; decide), if_neg (by rw [hs]; decide)]
        rw [eD, hs, if_pos rfl]
        have enow : (flushS (wrS (f + L.nx) L.S.size (secL ep L n P) L.S n)).now = (wrS (f + L.nx) L.S.size (secL ep L n P) L.S n).now := strikeS_now _
        have eN : (flushS (wrS (f + L.nx) L.S.size (secL ep L n P) L.S n)).N = L.S.N := (strikeS_N _).trans w1.N
        have eS : (flushS (wrS (f + L.nx) L.S.size (secL ep L n P) L.S n)).size = L.S.size := (strikeS_size _).trans w1.size
        refine .inr (.inl ⟨h0, rfl, ⟨by simp, ?_, rfl, fun j => ?_, z5, by rw [eS]; exact h.sz, by rw [eN]; exact hN⟩, rfl, eS, eN, fun j hj => ?_, fun j hj => ?_⟩)
        · exact strike_zero hs w2
        · show (flushS _).now j = fastTo (wrS (f + L.nx) L.S.size (secL ep L n P) L.S n).fast (wrS (f + L.nx) L.S.size (secL ep L n P) L.S n).loose j
          rw [enow, w1.fast, w1.lo, h.lo, List.nil_append]
          by_cases q : ∃ i, i < n ∧ j = f + L.nx + i
          · obtain ⟨i, hi, rfl⟩ := q
            rw [w1.at_ i hi]
            symm
            refine fastTo_get _ _ _ (fun x hx e => ?_) ⟨(f + L.nx + i, secL ep L n P i), List.mem_map.2 ⟨i, List.mem_range.2 hi, rfl⟩, rfl⟩
            obtain ⟨i', hi', rfl⟩ := List.mem_map.1 hx
            have e' : f + L.nx + i' = f + L.nx + i := e
            obtain rfl : i' = i := by omega
            rfl
          · rw [w1.out j fun i hi e => q ⟨i, hi, e⟩, h.nf j, fastTo_out]
            intro x hx e
            obtain ⟨i', hi', rfl⟩ := List.mem_map.1 hx
            exact q ⟨i', List.mem_range.1 hi', e.symm⟩
        · show (flushS _).now _ = _
          rw [enow]; exact w1.at_ j hj
        · show (flushS _).now _ = _
          rw [enow]; exact w1.out j hj
      · have q4 := strike_four hs
        have eD : flushD (wrS (f + L.nx) L.S.size (secL ep L n P) L.S n) = strikeS (wrS (f + L.nx) L.S.size (secL ep L n P) L.S n) := by
          unfold flushD
          rw [if_neg (by rw [w2]; decide), if_pos q4.1]
        rw [eD, q4.1]
        refine .inr (.inr ⟨h0, rfl, n, by simp, by omega, Nat.le_refl _, ⟨?_, ?_, fun j hj => ?_, fun j hj => ?_, ?_, ?_⟩⟩)
        · exact (strikeS_loose _).trans w1.lo
        · exact (strikeS_fast _).trans w1.fast
        · show (strikeS _).now _ = _
          rw [strikeS_now]; exact w1.at_ j hj
        · show (strikeS _).now _ = _
          rw [strikeS_now]; exact w1.out j hj
        · exact (strikeS_size _).trans w1.size
        · exact (strikeS_N _).trans w1.N
  · exact .inl ⟨h0, refuse_four _ _ _ _ _, appT_no h0⟩
theorem copyF_none (base F : Nat → Nat) : copyF base 0 0 F = base := by
  funext i
  unfold copyF
  rw [if_neg (by omega)]
theorem crash_to {S : DS} {fa : Nat → Int} {L a k : Nat} {F : Nat → Nat → Nat} (h : S.loose = (List.range k).map fun j => (a + j, F j)) : ∀ m, m ≤ k → ∃ c : Nat → Nat, (∀ j, j < m → (crashTo S fa L m).1 (a + j) = copyF (S.fast (a + j)) 0 (c j) (F j)) ∧ ∀ j, (∀ i, i < m → j ≠ a + i) → (crashTo S fa L m).1 j = S.fast j
  | 0, _ => ⟨fun _ => 0, fun j hj => absurd hj (by omega), fun _ _ => rfl⟩
  | m + 1, hm => by
    obtain ⟨c, h1, h2⟩ := crash_to (fa := fa) (L := L) h m (by omega)
    have hget : S.loose[m]? = some (a + m, F m) := by
      rw [h, List.getElem?_map, List.getElem?_range (by omega)]
      rfl
    have hbase := h2 (a + m) fun i hi e => by omega
    -- the m-th is written c' bytes far
    have hex : ∃ c', (crashTo S fa L (m + 1)).1 = upd (crashTo S fa L m).1 (a + m) (copyF (S.fast (a + m)) 0 c' (F m)) := by
      have e : crashTo S fa L (m + 1) = (match S.loose[m]? with
        | none => crashTo S fa L m
        | some x => if m + 1 = S.loose.length then (upd (crashTo S fa L m).1 x.1 (copyF ((crashTo S fa L m).1 x.1) 0 (choiceN fa L (crashTo S fa L m).2 (S.size + 1)) x.2), nextN L (crashTo S fa L m).2)
          else (if choiceN fa L (crashTo S fa L m).2 2 = 1 then upd (crashTo S fa L m).1 x.1 (copyF ((crashTo S fa L m).1 x.1) 0 S.size x.2) else (crashTo S fa L m).1, nextN L (crashTo S fa L m).2)) := rfl
      rw [e, hget]
      dsimp only
      rw [hbase]
      split
      · exact ⟨_, rfl⟩
      · dsimp only
        split
        · exact ⟨_, rfl⟩
        · refine ⟨0, ?_⟩
          rw [copyF_none, ← hbase]
          funext j
          unfold upd
          split
          · rename_i q; rw [q]
          · rfl
    obtain ⟨c', hc'⟩ := hex
    refine ⟨fun j => if j = m then c' else c j, fun j hj => ?_, fun j hj => ?_⟩
    · rw [hc']
      unfold upd
      dsimp only
      by_cases e : j = m
      · subst e; rw [if_pos rfl, if_pos rfl]
      · rw [if_neg (by omega), if_neg e]; exact h1 j (by omega)
    · rw [hc']
      unfold upd
      rw [if_neg (hj m (by omega))]
      exact h2 j fun i hi => hj i (by omega)
/-- What a crash leaves of loose writes: first pieces of them. -/
theorem crash_now {S : DS} {fa : Nat → Int} {L a k : Nat} {F : Nat → Nat → Nat} (h : S.loose = (List.range k).map fun j => (a + j, F j)) : ∃ c : Nat → Nat, (∀ j, j < k → (crashS S fa L).now (a + j) = copyF (S.fast (a + j)) 0 (c j) (F j)) ∧ ∀ j, (∀ i, i < k → j ≠ a + i) → (crashS S fa L).now j = S.now j := by
  have hl : S.loose.length = k := by rw [h]; simp
  obtain ⟨c, h1, h2⟩ := crash_to (fa := fa) (L := L) h k (Nat.le_refl _)
  refine ⟨c, fun j hj => ?_, fun j hj => ?_⟩
  · show nowTo (crashTo S fa L S.loose.length).1 S.now S.loose (a + j) = _
    rw [nowTo_in _ _ _ _ ⟨(a + j, F j), by rw [h]; exact List.mem_map.2 ⟨j, List.mem_range.2 hj, rfl⟩, rfl⟩, hl]
    exact h1 j hj
  · show nowTo (crashTo S fa L S.loose.length).1 S.now S.loose j = _
    rw [nowTo_out]
    intro x hx e
    rw [h] at hx
    obtain ⟨i, hi, rfl⟩ := List.mem_map.1 hx
    exact hj i (List.mem_range.1 hi) e.symm
theorem crash_quiet {S : DS} {fa : Nat → Int} {L : Nat} (h : S.loose = []) : (crashS S fa L).now = S.now ∧ (crashS S fa L).fast = S.fast := by
  unfold crashS
  rw [h]
  exact ⟨rfl, rfl⟩
end Go.Proofs.Ytdbfmllcapikkaa
/- What a log holds, plain: read as the document's groups. -/
namespace Go.Proofs.Ytdbfmllcapikkaa
open Go.RowKit
set_option linter.unusedVariables false
set_option linter.unusedSimpArgs false

def dcOf (S : DS) (f i : Nat) : Dc := (pageI (S.now (f + i)), strF (fun j => S.now (f + i) (25 + j)) (S.size - 45))
/-- Changes gathered into groups. -/
def dTo (last : Nat → Bool) (dc : Nat → Dc) : Nat → List (List Dc) × List Dc
  | 0 => ([], [])
  | k + 1 => if last k = true then ((dTo last dc k).1 ++ [(dTo last dc k).2 ++ [dc k]], []) else ((dTo last dc k).1, (dTo last dc k).2 ++ [dc k])
theorem gTo_dTo (last : Nat → Bool) (dc : Nat → Dc) : ∀ k, ((gTo last k).1.map (List.map dc), (gTo last k).2.map dc) = dTo last dc k
  | 0 => rfl
  | k + 1 => by
    have ih := gTo_dTo last dc k
    rw [gTo_succ]
    unfold gStep dTo
    rw [← ih]
    by_cases h : last k = true
    · rw [if_pos h, if_pos h]; simp
    · rw [if_neg h, if_neg h]; simp
theorem dTo_congr {l1 l2 : Nat → Bool} {d1 d2 : Nat → Dc} : ∀ k, (∀ i, i < k → l1 i = l2 i ∧ d1 i = d2 i) → dTo l1 d1 k = dTo l2 d2 k
  | 0, _ => rfl
  | k + 1, h => by
    unfold dTo
    rw [dTo_congr k fun i hi => h i (by omega), (h k (by omega)).1, (h k (by omega)).2]
/-- A whole group behind what is there, or its first part. -/
theorem dTo_run {last : Nat → Bool} {dc x : Nat → Dc} {nx n : Nat} {gs : List (List Dc)} (hn : 1 ≤ n) (h : dTo last dc nx = (gs, [])) : ∀ q, q ≤ n → (∀ j, j < q → last (nx + j) = decide (j + 1 = n) ∧ dc (nx + j) = x j) → dTo last dc (nx + q) = if q = n then (gs ++ [(List.range n).map x], []) else (gs, (List.range q).map x)
  | 0, _, _ => by rw [if_neg (by omega)]; exact h
  | q + 1, hq, hx => by
    have ih := dTo_run hn h q (by omega) fun j hj => hx j (by omega)
    rw [if_neg (by omega)] at ih
    show dTo last dc ((nx + q) + 1) = _
    unfold dTo
    rw [ih, (hx q (by omega)).1, (hx q (by omega)).2]
    by_cases e : q + 1 = n
    · rw [if_pos (decide_eq_true e), if_pos e, ← e, List.range_succ, List.map_append]; rfl
    · rw [if_neg (by rw [decide_eq_false e]; decide), if_neg e, List.range_succ, List.map_append]; rfl
theorem dc_congr {S T : DS} {f i : Nat} (hs : 64 ≤ S.size) (e : T.size = S.size) (h : ∀ k, k < S.size → T.now (f + i) k = S.now (f + i) k) : dcOf T f i = dcOf S f i ∧ lastB T f i = lastB S f i := by
  unfold dcOf lastB pageI takeI flagN
  refine ⟨Prod.ext ?_ ?_, ?_⟩
  · dsimp only
    rw [leTo_congr fun k hk => h (16 + k) (by omega)]
  · dsimp only
    rw [e]
    exact strF_congr fun k hk => h _ (by omega)
  · rw [h 24 (by omega)]
/-- What a put is as the document's change. -/
def putDc (room : Nat) (P : Nat → PutD) (i : Nat) : Dc := ((P i).page, strF (fun _ => (P i).b) (putN room (P i)))
def gD (room n : Nat) (P : Nat → PutD) : List Dc := (List.range n).map (putDc room P)
/-- A log's first slots hold groups of an epoch. -/
structure Cont (f ep : Nat) (S : DS) (nx : Nat) (gs : List (List Dc)) : Prop where
  ch : ∀ i, i < nx → chAt S f ep i
  rd : dTo (lastB S f) (dcOf S f) nx = (gs, [])
theorem Cont.zero (f ep : Nat) (S : DS) : Cont f ep S 0 [] := ⟨fun i hi => absurd hi (by omega), rfl⟩
theorem Cont.keep {f ep nx : Nat} {S T : DS} {gs : List (List Dc)} (h : Cont f ep S nx gs) (hs : 64 ≤ S.size) (e : T.size = S.size) (k : ∀ i, i < nx → T.now (f + i) = S.now (f + i)) : Cont f ep T nx gs :=
  ⟨fun i hi => by
    have := h.ch i hi
    unfold chAt at this ⊢
    rw [k i hi, e]; exact this, by
    rw [← h.rd]
    exact dTo_congr nx fun i hi => by
      obtain ⟨a, b⟩ := dc_congr (f := f) (i := i) hs e fun q _ => by rw [k i hi]
      exact ⟨b, a⟩⟩
/-- The slots behind the log's end. -/
def Rest (f cn : Nat) (R : Nat → (Nat → Nat) → Prop) (S : DS) (nx : Nat) : Prop := ∀ i, nx ≤ i → i < cn → R i (S.now (f + i))
theorem secL_at {ep n j : Nat} {L : LS} {P : Nat → PutD} (hp : putN (L.S.size - 45) (P j) = L.S.size - 45) : secL ep L n P j = chSec L.S.size ep (L.nx + j) (P j).page.toNat (decide (j + 1 = n)) (fun _ => (P j).b) := by
  unfold secL logSec chSec
  show secF (L.S.size - 20) (mkN ep (L.nx + j)) (9 + putN (L.S.size - 45) (P j)) _ = _
  rw [hp]
  rfl
/-- A slot that was written whole. -/
theorem wrote_slot {f ep n j : Nat} {L : LS} {T : DS} {P : Nat → PutD} (hs : 64 ≤ L.S.size) (he1 : 1 ≤ ep) (he : ep ≤ 1099511627776) (hi : L.nx + j ≤ 1048576) (hb : (P j).b < 256) (hpg : 0 ≤ (P j).page ∧ (P j).page ≤ 2147483647) (hp : putN (L.S.size - 45) (P j) = L.S.size - 45)
    (e : T.size = L.S.size) (h : ∀ k, k < L.S.size → T.now (f + (L.nx + j)) k = secL ep L n P j k) : chAt T f ep (L.nx + j) ∧ lastB T f (L.nx + j) = decide (j + 1 = n) ∧ dcOf T f (L.nx + j) = putDc (L.S.size - 45) P j := by
  have hG : ∀ k : Nat, (fun _ => (P j).b : Nat → Nat) k < 256 := fun _ => hb
  rw [secL_at hp] at h
  have h2 : pageI (T.now (f + (L.nx + j))) = (P j).page := by
    unfold pageI takeI
    rw [leTo_congr fun k hk => h (16 + k) (by omega)]
    have := chSec_page (ep := ep) (i := L.nx + j) (page := (P j).page.toNat) (last := decide (j + 1 = n)) (G := fun _ => (P j).b) hs he hi (by omega)
    unfold pageI takeI at this
    rw [this]
    omega
  have h3 : flagN (T.now (f + (L.nx + j))) = if decide (j + 1 = n) then 1 else 0 := (h 24 (by omega)).trans (chSec_flag hs he hi)
  refine ⟨?_, ?_, ?_⟩
  · unfold chAt
    rw [e, ch_congr (m := L.S.size - 20) (by omega) fun k hk => h k (by omega)]
    exact chSec_ch hs he1 he hi hG (by omega)
  · unfold lastB
    rw [h3]
    by_cases q : j + 1 = n
    · rw [decide_eq_true q]; rfl
    · rw [decide_eq_false q]; rfl
  · unfold dcOf putDc
    rw [h2, e, hp]
    congr 1
    exact strF_congr fun k hk => (h _ (by omega)).trans (chSec_bytes hs he hi (by omega))
/-- A group that was written whole behind the others. -/
theorem Cont.app {f cn ep n nx' : Nat} {L : LS} {T : DS} {P : Nat → PutD} {gs : List (List Dc)} (h : Cont f ep L.S L.nx gs) (hs : 64 ≤ L.S.size) (he1 : 1 ≤ ep) (he : ep ≤ 1099511627776) (hc : cn ≤ 1048576) (hb : ∀ j, j < n → (P j).b < 256) (h0 : appR cn L n P = 0)
    (e : T.size = L.S.size) (hn : nx' = L.nx + n) (at_ : ∀ j, j < n → ∀ k, k < L.S.size → T.now (f + L.nx + j) k = secL ep L n P j k) (out : ∀ j, (∀ i, i < n → j ≠ f + L.nx + i) → T.now j = L.S.now j) : Cont f ep T nx' (gs ++ [gD (L.S.size - 45) n P]) := by
  subst hn
  obtain ⟨z1, z2, z3, z4, z5⟩ := appR_zero h0 (by omega)
  have hk := h.keep (T := T) hs e fun i hi => out (f + i) fun j hj => by omega
  have hw := fun j (hj : j < n) => wrote_slot (f := f) (T := T) (n := n) hs he1 he (by omega) (hb j hj) (z3 j hj) (z4 j hj) e fun k hk => by
    rw [← Nat.add_assoc]; exact at_ j hj k hk
  refine ⟨fun i hi => ?_, ?_⟩
  · by_cases q : i < L.nx
    · exact hk.ch i q
    · obtain ⟨j, rfl⟩ : ∃ j, i = L.nx + j := ⟨i - L.nx, by omega⟩
      exact (hw j (by omega)).1
  · have := dTo_run (x := putDc (L.S.size - 45) P) z2 hk.rd n (Nat.le_refl _) fun j hj => (hw j hj).2
    rw [if_pos rfl] at this
    exact this
theorem Rest.app {f cn n nx' : Nat} {R : Nat → (Nat → Nat) → Prop} {L : LS} {T : DS} (h : Rest f cn R L.S L.nx) (hn : nx' = L.nx + n) (out : ∀ j, (∀ i, i < n → j ≠ f + L.nx + i) → T.now j = L.S.now j) : Rest f cn R T nx' := by
  subst hn
  intro i h1 h2
  rw [out (f + i) fun j hj => by omega]
  exact h i (by omega) h2
/-- Where the slots behind hold nothing of the epoch, just the log's own groups are read. -/
theorem read_cont {f cn ep nx k : Nat} {S : DS} {gs : List (List Dc)} (h : Cont f ep S nx gs) (hr : Rest f cn (fun i F => ¬ isCh F (S.size - 20) i ep) S nx) (hnx : nx ≤ cn) (hk : k ≤ cn) (hch : ∀ i, i < k → chAt S f ep i) (hno : k < cn → ¬ chAt S f ep k) : (dTo (lastB S f) (dcOf S f) k).1 = gs := by
  have e : k = nx := by
    rcases Nat.lt_trichotomy k nx with q | q | q
    · exact absurd (h.ch k q) (hno (by omega))
    · exact q
    · exact absurd (hch nx q) (hr nx (Nat.le_refl _) (by omega))
  rw [e, h.rd]
/-- Behind a crash in the midst of a group: the groups that were told, and it as well, or not. -/
theorem read_fell {f cn ep n k k' m : Nat} {L0 L : LS} {P : Nat → PutD} {gs : List (List Dc)} {fa : Nat → Int} (h0 : Alive f cn L0) (h : Cont f ep L0.S L0.nx gs) (hr : Rest f cn (fun i F => Elder L0.S.size ep i F) L0.S L0.nx) (he1 : 1 ≤ ep) (he : ep ≤ 1099511627776) (hc : cn ≤ 1048576)
    (hb : ∀ j, j < n → (P j).b < 256) (hR : appR cn L0 n P = 0) (hF : Fell f ep L0 n P L k) (hk : k' ≤ cn) (hch : ∀ i, i < k' → chAt (crashS L.S fa m) f ep i) (hno : k' < cn → ¬ chAt (crashS L.S fa m) f ep k') :
    (dTo (lastB (crashS L.S fa m) f) (dcOf (crashS L.S fa m) f) k').1 = gs ∨ (dTo (lastB (crashS L.S fa m) f) (dcOf (crashS L.S fa m) f) k').1 = gs ++ [gD (L0.S.size - 45) n P] := by
  have hs := h0.sz
  obtain ⟨z1, z2, z3, z4, z5⟩ := appR_zero hR (by omega)
  have hlo : L.S.loose = (List.range k).map fun j => (f + L0.nx + j, secL ep L0 n P j) := by rw [hF.w.lo, h0.lo, List.nil_append]
  obtain ⟨c, c1, c2⟩ := crash_now (fa := fa) (L := m) hlo
  obtain ⟨T, hT⟩ : ∃ T, T = crashS L.S fa m := ⟨_, rfl⟩
  have eS : T.size = L0.S.size := by rw [hT]; exact hF.w.size
  rw [← hT] at c1 c2 hch hno ⊢
  clear hT
  have c3 : ∀ j, (∀ i, i < k → j ≠ f + L0.nx + i) → T.now j = L0.S.now j := fun j hj => (c2 j hj).trans (hF.w.out j hj)
  have c4 : ∀ j, j < k → T.now (f + L0.nx + j) = copyF (L0.S.now (f + L0.nx + j)) 0 (c j) (secL ep L0 n P j) := fun j hj => by rw [c1 j hj, hF.w.fast, ← h0.nf]
  have hC : Cont f ep T L0.nx gs := h.keep hs.1 eS fun i hi => c3 _ fun j hj => by omega
  have hkn := hF.kn
  -- what is told of the slots behind
  have hw : ∀ j, j < k → chAt T f ep (L0.nx + j) → lastB T f (L0.nx + j) = decide (j + 1 = n) ∧ dcOf T f (L0.nx + j) = putDc (L0.S.size - 45) P j := fun j hj hc => by
    have hsec := secL_at (ep := ep) (n := n) (L := L0) (P := P) (z4 j (by omega))
    have hcc := hc
    unfold chAt at hcc
    rw [eS, ← Nat.add_assoc, c4 j hj, hsec] at hcc
    have hz := torn_ch hs.1 he1 he (by omega) (fun _ => hb j (by omega)) (by
      have := hr (L0.nx + j) (by omega) (by omega)
      rw [← Nat.add_assoc] at this
      exact this) hcc
    exact (wrote_slot (f := f) (T := T) (n := n) hs.1 he1 he (by omega) (hb j (by omega)) (z3 j (by omega)) (z4 j (by omega)) eS fun q hq => by
      rw [← Nat.add_assoc, c4 j hj, hsec]
      exact hz q hq).2
  have hnot : ∀ i, L0.nx + k ≤ i → i < cn → ¬ chAt T f ep i := fun i h1 h2 hc => by
    unfold chAt at hc
    rw [eS, c3 (f + i) fun j hj => by omega] at hc
    exact elder_no hs.1 he (by omega) (hr i (by omega) h2) (Nat.le_refl _) he1 hc
  have hge : L0.nx ≤ k' := by
    rcases Nat.lt_or_ge k' L0.nx with q | q
    · exact absurd (hC.ch k' q) (hno (by omega))
    · exact q
  obtain ⟨q, rfl⟩ : ∃ q, k' = L0.nx + q := ⟨k' - L0.nx, by omega⟩
  have hqk : q ≤ k := by
    rcases Nat.lt_or_ge k q with z | z
    · exact absurd (hch (L0.nx + k) (by omega)) (hnot _ (Nat.le_refl _) (by omega))
    · exact z
  have := dTo_run (x := putDc (L0.S.size - 45) P) z2 hC.rd q (by omega) fun j hj => hw j (by omega) (hch _ (by omega))
  rw [this]
  by_cases e : q = n
  · rw [if_pos e]; exact .inr rfl
  · rw [if_neg e]; exact .inl rfl
theorem gTo_mem (last : Nat → Bool) : ∀ k g, g ∈ (gTo last k).1 → g.length ≤ k
  | 0, g, h => by simp [gTo] at h
  | k + 1, g, h => by
    have ih := gTo_mem last k
    have hl := (gTo_len last k).2
    rw [gTo_succ] at h
    unfold gStep at h
    split at h
    · rcases List.mem_append.1 h with h | h
      · have := ih g h; omega
      · rw [List.mem_singleton.1 h, List.length_append]
        simp; omega
    · have := ih g h; omega
/-- What Read tells, as the document's groups. -/
theorem read_lgs {S : DS} {f cn ep : Nat} {w w' : World} {e : Ending} (hs : 64 ≤ S.size ∧ S.size ≤ 4096) (hcn : cn ≤ 1000000) (h : ReadP S f cn ep w e w') : ∃ k v, k ≤ cn ∧ (∀ i, i < k → chAt S f ep i) ∧ (k < cn → ¬ chAt S f ep k) ∧ e = .returned (.tuple #[v, .int .i64 0]) ∧ LGs w' v (dTo (lastB S f) (dcOf S f) k).1 ∧ Below w.heap.size w w' := by
  obtain ⟨⟨k, v, vs, X, hk, hch, hno, he, hown, hgr, hX⟩, hb⟩ := h
  refine ⟨k, v, hk, hch, hno, he, ?_, hb⟩
  have hd : (dTo (lastB S f) (dcOf S f) k).1 = (gTo (lastB S f) k).1.map (List.map (dcOf S f)) := by rw [← gTo_dTo]
  rw [hd]
  have hlen := (gTo_len (lastB S f) k).1
  have hvl : vs.length = (gTo (lastB S f) k).1.length := by have := hown.1; omega
  have hrow : ∀ (j : Nat) (u : Value) (l : List Dc), vs[j]? = some u → ((gTo (lastB S f) k).1.map (List.map (dcOf S f)))[j]? = some l → LRw w' u l := fun j u l a b => by
    rw [List.getElem?_map] at b
    cases hg : (gTo (lastB S f) k).1[j]? with
    | none => rw [hg] at b; cases b
    | some g =>
      rw [hg] at b
      simp only [Option.map_some, Option.some.injEq] at b
      subst b
      obtain ⟨b, c, ls, rfl, hx, h1, h2, hrow, hcell⟩ := hgr j u g a hg
      have hls := hrow.1
      have hgl : g.length ≤ 1000000 := by
        have hmem := List.mem_of_getElem? hg
        have := gTo_mem (lastB S f) k g hmem
        omega
      refine ⟨some ⟨b, 0, none⟩, c, by rw [List.length_map], by rw [List.length_map]; exact hgl, fun _ => ⟨b, 0, rfl, fun i y hy => ?_⟩⟩
      rw [List.getElem?_map] at hy
      cases hgi : g[i]? with
      | none => rw [hgi] at hy; cases hy
      | some s =>
        rw [hgi] at hy
        simp only [Option.map_some, Option.some.injEq] at hy
        subst hy
        have hil : i < ls.length := by rw [hls]; exact (List.getElem?_eq_some_iff.1 hgi).1
        have hl := List.getElem?_eq_getElem hil
        obtain ⟨hp, b', o', d', hv', hXb, hd1, hd2, hby⟩ := hrow.2 i s _ hgi hl
        obtain ⟨q1, q2⟩ := chCells_at hl
        rw [Nat.zero_add]
        refine ⟨?_, some ⟨b', o', none⟩, S.size - 20 - 25, d', fun j => S.now (f + s) (25 + j), ?_, hby, ?_⟩
        · rw [hcell _ _ q1, hp]; rfl
        · rw [hcell _ _ q2, hv']
        · unfold dcOf
          rw [show S.size - 20 - 25 = S.size - 45 by omega]
  obtain ⟨A, c, rfl⟩ := own_sl hown
  have h0 := hown
  refine ⟨A, c, vs, by rw [List.length_map], by rw [List.length_map]; exact hvl, by rw [List.length_map]; omega, fun hne => ?_, hrow⟩
  rw [List.length_map] at hne
  rcases hown.2 with ⟨_, h⟩ | ⟨q, cap, cur, e, _⟩
  · omega
  · injection e with e _ _
    subst e
    exact ⟨q, 0, rfl, fun j u hu => by
      rw [Nat.zero_add, ← hu]
      exact World.ownsRow.cellAt (w := w') (base := w.heap.size) (e := 38) (size := 1) h0 j (by have := (List.getElem?_eq_some_iff.1 hu).1; omega)⟩
end Go.Proofs.Ytdbfmllcapikkaa
/- Memory kept by its types, while a law gathers rows beside a log. -/
namespace Go.Proofs.Ytdbfmllcapikkaa
open Go.RowKit
set_option linter.unusedVariables false
set_option linter.unusedSimpArgs false

/-- Blocks of cells are kept, but those of bad types. -/
def KeepY (bad : TypeId → Prop) (W W' : World) : Prop := ∀ (k : Nat) (cs : Array Value) (t : TypeId), W.heap[k]? = some (.cells cs t (0, 0)) → ¬ bad t → W'.heap[k]? = some (.cells cs t (0, 0))
def badR (t : TypeId) : Prop := t = 47 ∨ t = 45
def badD (t : TypeId) : Prop := t = 78 ∨ t = 42 ∨ t = 111 ∨ t = 85
instance (t : TypeId) : Decidable (badR t) := by unfold badR; exact inferInstance
instance (t : TypeId) : Decidable (badD t) := by unfold badD; exact inferInstance
section
variable {bad : TypeId → Prop} {W W' W2 : World}
theorem KeepY.refl : KeepY bad W W := fun _ _ _ h _ => h
theorem KeepY.trans (h : KeepY bad W W') (k : KeepY bad W' W2) : KeepY bad W W2 := fun q cs t e b => k q cs t (h q cs t e b) b
theorem KeepY.below (l : Below W.heap.size W W') : KeepY bad W W' := fun k cs t e _ => (l.block k (Array.getElem?_eq_some_iff.1 e).1).trans e
theorem KeepY.grown {base e size n : Nat} {v : Value} {xs : List Value} (ho : W.ownsRow base e size v n xs) (he : bad e) (hg : W.grownBy W' v.ownBlock) : KeepY bad W W' := fun k cs t h b => (hg.block k (Array.getElem?_eq_some_iff.1 h).1 fun e2 => by
  obtain ⟨_, ds, hd⟩ := own_typed ho e2.symm
  refine b ?_
  rw [h] at hd
  injection hd with hd
  injection hd with _ hd
  rw [hd]; exact he).trans h
theorem KeepT.y {b : Nat} (h : KeepT b W W') (hb : ∃ cs, W.heap[b]? = some (.cells cs 85 (0, 0))) : KeepY badD W W' := fun k cs t e hn => by
  obtain ⟨ds, hb⟩ := hb
  refine h k cs t e (type_ne e hb fun q => hn (.inr (.inr (.inr q)))) (fun q => hn (.inl q)) (fun q => hn (.inr (.inl q))) fun q => hn (.inr (.inr (.inl q)))
theorem KeepY.brow {g n : Nat} {F : Nat → Nat} (h : KeepY bad W W') (r : BRow W g n F) (hb : ¬ bad 5) : BRow W' g n F := by
  obtain ⟨⟨c, hc, hx⟩, h2⟩ := r
  exact ⟨⟨c, h g c _ hc hb, hx⟩, h2⟩
theorem GrpR.keepY {n0 room n : Nat} {P : Nat → PutD} {v : Value} (h : GrpR n0 W room P n v) (k : KeepY bad W W') (h1 : ¬ bad 5) (h2 : ¬ bad 44) : GrpR n0 W' room P n v := by
  obtain ⟨ls, hl, ho, hp⟩ := h
  exact ⟨ls, hl, own_blockeq ho fun q cs _ e => k q cs _ e h2, hp.keep fun g m F r => k.brow r h1⟩
theorem GB.keepY {n0 : Nat} {gs : List (List Dc)} {g : List Dc} {vG vg : Value} (h : GB n0 gs g vG vg W) (k : KeepY badD W W') : GB n0 gs g vG vg W' :=
  h.kept (fun q cs e => k q cs _ e (by decide)) (fun q cs e => k q cs _ e (by decide))
end
/-- One change of a group that was made of puts. -/
theorem grp_at {n0 room n j : Nat} {W : World} {P : Nat → PutD} {v : Value} (h : GrpR n0 W room P n v) (hj : j < n) : ∃ g c b, v = .slice (some ⟨g, 0, none⟩) n c ∧ W.cell? ⟨g, j * 2, none⟩ = some (.int .i64 (P j).page) ∧ W.cell? ⟨g, j * 2 + 1, none⟩ = some (.slice (some ⟨b, 0, none⟩) (putN room (P j)) (putN room (P j))) ∧ BRow W b (putN room (P j)) (fun _ => (P j).b) ∧ ∃ cs, W.heap[g]? = some (.cells cs 44 (0, 0)) := by
  obtain ⟨ls, hl, ho, hp⟩ := h
  obtain ⟨k, rfl⟩ : ∃ k, n = k + 1 := ⟨n - 1, by omega⟩
  obtain ⟨g, c, rfl⟩ := ownsRow_succ ho
  have hx := List.getElem?_eq_getElem (l := ls) (i := j) (by omega)
  obtain ⟨h1, b, h2, h3, h4⟩ := hp j _ hx
  have hc := chCells_at hx
  have hlen := chCells_len ls
  have d : ∀ q u, (chCells ls)[q]? = some u → W.cell? ⟨g, q, none⟩ = some u := fun q u hu => by
    obtain ⟨hq, _⟩ := List.getElem?_eq_some_iff.1 hu
    rw [World.ownsRow.cellAt (w := W) (base := n0) (e := 44) (size := 2) ho q (by omega)]
    exact hu
  refine ⟨g, c, b, rfl, ?_, ?_, h4, (own_typed ho rfl).2⟩
  · rw [d _ _ hc.1, h1]
  · rw [d _ _ hc.2, h2]
theorem KeepY.cell {bad : TypeId → Prop} {W W' : World} {g i : Nat} {v : Value} {t : TypeId} (h : KeepY bad W W') (hg : ∃ cs, W.heap[g]? = some (.cells cs t (0, 0))) (ht : ¬ bad t) (hc : W.cell? ⟨g, i, none⟩ = some v) : W'.cell? ⟨g, i, none⟩ = some v := by
  obtain ⟨cs, hg⟩ := hg
  exact (World.cell?_of_block (w := W) (a := ⟨g, i, none⟩) ((h g cs t hg ht).trans hg.symm)).trans hc
/-- What is read of one change, in whatever world has kept it. -/
theorem grp_read {n0 room n j : Nat} {W : World} {P : Nat → PutD} {v : Value} (h : GrpR n0 W room P n v) (hj : j < n) : ∃ g c b m, v = .slice (some ⟨g, 0, none⟩) n c ∧ m = putN room (P j) ∧ ∀ (bad : TypeId → Prop) W', KeepY bad W W' → ¬ bad 44 → ¬ bad 5 →
    W'.cell? ⟨g, j * 2, none⟩ = some (.int .i64 (P j).page) ∧ W'.cell? ⟨g, j * 2 + 1, none⟩ = some (.slice (some ⟨b, 0, none⟩) m m) ∧ (convert 42 9 (.slice (some ⟨b, 0, none⟩) m m)).run Try.prog W' = .ok (.string (putDc room P j).2) W' := by
  obtain ⟨g, c, b, e, d0, d1, d2, d3⟩ := grp_at h hj
  refine ⟨g, c, b, _, e, rfl, fun bad W' k h1 h2 => ⟨k.cell d3 h1 d0, k.cell d3 h1 d1, conv_any _ (((k.brow d2 h2).bytes (o := 0) (m := putN room (P j)) (by omega)).congr fun q _ => rfl)⟩⟩
theorem GrpR.len {n0 room n : Nat} {W : World} {P : Nat → PutD} {v : Value} (h : GrpR n0 W room P n v) : ∃ A c, v = .slice A n c := by
  obtain ⟨ls, hl, ho, hp⟩ := h
  exact own_sl ho
theorem LSt.blk [Spare] {w0 w : World} {base b f cn ep : Nat} {M : DM} {L : LS} (h : LSt w0 base b f cn ep M L w) : ∃ cs, w.heap[b]? = some (.cells cs 85 (0, 0)) := ⟨_, h.2.1⟩
theorem gD_len (room n : Nat) (P : Nat → PutD) : (gD room n P).length = n := by unfold gD; simp
theorem gD_at {room n j : Nat} {P : Nat → PutD} (hj : j < n) : (gD room n P)[j]? = some (putDc room P j) := by
  unfold gD
  rw [List.getElem?_map, List.getElem?_range hj]
  rfl
/-- A row of the law's own that grows is nothing to a log. -/
theorem LSt.grown [Spare] {w0 W W' : World} {base b f cn ep n0 e size n : Nat} {M : DM} {L : LS} {v : Value} {xs : List Value} (h : LSt w0 base b f cn ep M L W) (ho : W.ownsRow n0 e size v n xs) (hn0 : base ≤ n0) (h1 : e ≠ 5) (h2 : ¬ badD e) (hg : W.grownBy W' v.ownBlock) : LSt w0 base b f cn ep M L W' := by
  obtain ⟨⟨u, hO⟩, hb, h3⟩ := h
  have lt : ∀ {k : Nat} {o : Obj}, W.heap[k]? = some o → k < W.heap.size := fun e => (Array.getElem?_eq_some_iff.1 e).1
  have kp : ∀ (k : Nat) (cs : Array Value) (t : TypeId), W.heap[k]? = some (.cells cs t (0, 0)) → t ≠ e → W'.heap[k]? = W.heap[k]? := fun k cs t hk hne => hg.block k (lt hk) fun e2 => by
    obtain ⟨_, ds, hd⟩ := own_typed ho e2.symm
    rw [hk] at hd
    injection hd with hd
    injection hd with _ hd
    exact hne hd
  have d := hO.d
  obtain ⟨V, ⟨c1, v1, _⟩, _⟩ := d.vf
  obtain ⟨U, ⟨c2, u1, _⟩, _⟩ := d.vn
  obtain ⟨vs, _, l2, _⟩ := d.lo
  have D' : Dsk W' base { M with vl := u } L.S := d.keep (kp _ _ _ d.hp fun q => h2 (.inl q.symm)) (kp _ _ _ v1 fun q => h2 (.inr (.inl q.symm))) (kp _ _ _ u1 fun q => h2 (.inr (.inl q.symm)))
    (fun k hk => by
      obtain ⟨_, ds, hd⟩ := own_typed l2 hk
      exact kp _ _ _ hd fun q => h2 (.inr (.inr (.inl q.symm)))) (fun g cs _ hb => (kp _ _ _ hb fun q => h1 q.symm).trans hb) hg.size
  exact ⟨⟨u, D', hO.b.grown hg hO.le (fun j hj => Nat.le_trans hn0 (ho.lt j hj).1), hO.z⟩, (kp _ _ _ hb fun q => h2 (.inr (.inr (.inr q.symm)))).trans hb, h3⟩
end Go.Proofs.Ytdbfmllcapikkaa
/- LogAgain: its plain part. -/
namespace Go.Proofs.Ytdbfmllcapikkaa
open Go.RowKit
set_option linter.unusedVariables false
set_option linter.unusedSimpArgs false

theorem NowInv.put {S : DS} (h : NowInv S) (a : Int) (n : Nat) (F : Nat → Nat) : NowInv (putS S a n F) := by
  unfold putS
  split
  · exact h
  · exact (h.keep _ _).strike
theorem NowInv.wr {S : DS} (h : NowInv S) (a sz : Nat) (sec : Nat → Nat → Nat) : ∀ k, NowInv (wrS a sz sec S k)
  | 0 => h
  | k + 1 => (NowInv.wr h a sz sec k).put _ _ _
theorem NowInv.flushD {S : DS} (h : NowInv S) : NowInv (flushD S) := by
  unfold Go.Proofs.Ytdbfmllcapikkaa.flushD
  split
  · exact h
  · split
    · exact h.strike
    · exact h.flush
theorem appT_inv {f cn ep n : Nat} {L : LS} {P : Nat → PutD} (h : NowInv L.S) : NowInv (appT f cn ep L n P).2.S := by
  unfold appT
  split
  · exact h
  · split
    · exact h.wr _ _ _ _
    · exact (h.wr _ _ _ _).flushD
theorem appT_loose {f cn ep n : Nat} {L : LS} {P : Nat → PutD} : (appT f cn ep L n P).2.S.loose.length ≤ L.S.loose.length + n := by
  unfold appT
  split
  · exact Nat.le_add_right _ _
  · split
    · rename_i k hk
      obtain ⟨_, h2, _⟩ := (List.find?_range_eq_some).1 hk
      have := wrS_len (f + L.nx) L.S.size (secL ep L n P) L.S (k + 1)
      have := List.mem_range.1 h2
      show (wrS _ _ _ _ _).loose.length ≤ _
      omega
    · have := wrS_len (f + L.nx) L.S.size (secL ep L n P) L.S n
      show (flushD _).loose.length ≤ _
      unfold flushD
      split
      · exact this
      · split
        · rw [strikeS_loose]; exact this
        · exact Nat.zero_le _
/-- The elder groups of LogAgain, ahead of the crash. -/
structure AgE (L : LS) : Prop where
  al : Alive 1 10 L
  z : ∀ i, L.nx ≤ i → i < 10 → ∀ k, k < 64 → L.S.now (1 + i) k = 0
  e : ∀ i, i < L.nx → Elder 64 8 i (L.S.now (1 + i))
structure AgA (L : LS) : Prop where
  size : L.S.size = 64
  N : L.S.N = 12
  inv : NowInv L.S
  lo : L.S.loose.length ≤ 8
  nx : L.nx ≤ 10
  st : AgE L ∨ ∃ L0 n P k, AgE L0 ∧ L0.S.size = 64 ∧ n ≤ 8 ∧ (∀ j, j < n → (P j).b < 256) ∧ appR 10 L0 n P = 0 ∧ Fell 1 7 L0 n P L k
theorem secL_as {ep n j : Nat} {L : LS} {P : Nat → PutD} (hs : L.S.size = 64) (hp : putN (L.S.size - 45) (P j) = L.S.size - 45) : secL ep L n P j = chSec 64 ep (L.nx + j) (P j).page.toNat (decide (j + 1 = n)) (fun _ => (P j).b) := by
  rw [secL_at hp, hs]
theorem AgA.step {L : LS} {n : Nat} {P : Nat → PutD} (h : AgA L) (hn : n ≤ 8) (hb : ∀ j, j < n → (P j).b < 256) : AgA (appT 1 10 7 L n P).2 := by
  rcases h.st with hE | ⟨L0, n0, P0, k, a1, a2, a3, a4, a5, a6⟩
  · have hlo := appT_loose (f := 1) (cn := 10) (ep := 7) (n := n) (L := L) (P := P)
    rw [hE.al.lo] at hlo
    have hlo8 : (appT 1 10 7 L n P).2.S.loose.length ≤ 8 := Nat.le_trans hlo (by simp; omega)
    rcases app_cases (ep := 7) (n := n) (P := P) hE.al with ⟨_, _, e⟩ | ⟨h0, _, al, nx, sz, eN, at_, out⟩ | ⟨h0, _, k, fl⟩
    · rw [e]; exact h
    · obtain ⟨z1, z2, z3, z4, z5⟩ := appR_zero h0 (by rw [h.size]; omega)
      refine ⟨sz.trans h.size, eN.trans h.N, appT_inv h.inv, hlo8, by rw [nx]; exact z5, .inl ⟨al, fun i h1 h2 q hq => ?_, fun i hi => ?_⟩⟩
      · rw [nx] at h1
        rw [out (1 + i) fun j hj => by omega]
        exact hE.z i (by omega) h2 q hq
      · by_cases q : i < L.nx
        · rw [out (1 + i) fun j hj => by omega]; exact hE.e i q
        · obtain ⟨j, rfl⟩ : ∃ j, i = L.nx + j := ⟨i - L.nx, by omega⟩
          rw [← Nat.add_assoc, at_ j (by omega), secL_as h.size (z4 j (by omega))]
          exact elder_sec (by omega) (by omega) (by omega) (by omega) (by omega) fun _ => hb j (by omega)
    · have w := fl.w
      exact ⟨w.size.trans h.size, w.N.trans h.N, appT_inv h.inv, hlo8, by
        rw [fell_nx h0 fl.dd]; exact h.nx, .inr ⟨L, n, P, k, hE, h.size, hn, hb, h0, fl⟩⟩
  · rw [app_dead a6.dd]; exact h
/-- Behind the crash no slot is one of the newer epoch. -/
theorem AgA.crash {L : LS} (h : AgA L) (fa : Nat → Int) (m : Nat) : Up (crashS L.S fa m) ∧ (crashS L.S fa m).size = 64 ∧ (crashS L.S fa m).N = 12 ∧ (∀ j, (crashS L.S fa m).now j = (crashS L.S fa m).fast j) ∧ Rest 1 10 (fun i F => ¬ isCh F 44 i 8) (crashS L.S fa m) 0 := by
  refine ⟨⟨rfl, rfl⟩, h.size, h.N, h.inv.crash fa m, fun i _ hi => ?_⟩
  rcases h.st with hE | ⟨L0, n0, P0, k, a1, a2, a3, a4, a5, a6⟩
  · rw [(crash_quiet hE.al.lo).1]
    by_cases q : i < L.nx
    · exact elder_no (sz := 64) (by omega) (by omega) (by omega) (hE.e i q) (Nat.le_refl _) (by omega)
    · exact elder_no (sz := 64) (ep := 8) (by omega) (by omega) (by omega) (.inl (hE.z i (by omega) hi)) (Nat.le_refl _) (by omega)
  · obtain ⟨z1, z2, z3, z4, z5⟩ := appR_zero a5 (by rw [a2]; omega)
    have hlo : L.S.loose = (List.range k).map fun j => (1 + L0.nx + j, secL 7 L0 n0 P0 j) := by rw [a6.w.lo, a1.al.lo, List.nil_append]
    obtain ⟨c, c1, c2⟩ := crash_now (fa := fa) (L := m) hlo
    have hkn := a6.kn
    by_cases q : i < L0.nx
    · rw [c2 (1 + i) fun j hj => by omega, a6.w.out (1 + i) fun j hj => by omega]
      exact elder_no (sz := 64) (by omega) (by omega) (by omega) (a1.e i q) (Nat.le_refl _) (by omega)
    · obtain ⟨j, rfl⟩ : ∃ j, i = L0.nx + j := ⟨i - L0.nx, by omega⟩
      by_cases hj : j < k
      · rw [← Nat.add_assoc, c1 j hj, a6.w.fast, ← a1.al.nf, secL_as a2 (z4 j (by omega))]
        refine torn_elder (sz := 64) (by omega) (by omega) (by omega) (by omega) (by omega) (fun _ => a4 j (by omega)) fun q hq => ?_
        have := a1.z (L0.nx + j) (by omega) (by omega) q hq
        rw [← Nat.add_assoc] at this
        exact this
      · rw [c2 (1 + (L0.nx + j)) fun i hi => by omega, a6.w.out (1 + (L0.nx + j)) fun i hi => by omega]
        exact elder_no (sz := 64) (ep := 8) (by omega) (by omega) (by omega) (.inl (a1.z _ (by omega) (by omega))) (Nat.le_refl _) (by omega)
/-- The newer groups. -/
structure AgB (f cn ep : Nat) (L : LS) (gs : List (List Dc)) : Prop where
  al : Alive f cn L
  up : Up L.S
  size : L.S.size = 64
  N : L.S.N = 12
  ct : Cont f ep L.S L.nx gs
  rs : Rest f cn (fun i F => ¬ isCh F (L.S.size - 20) i ep) L.S L.nx
theorem AgB.step {f cn ep : Nat} {L : LS} {gs : List (List Dc)} {n : Nat} {P : Nat → PutD} (h : AgB f cn ep L gs) (he1 : 1 ≤ ep) (he : ep ≤ 1099511627776) (hc : cn ≤ 1048576) (hb : ∀ j, j < n → (P j).b < 256) :
    ((appT f cn ep L n P).1 ≠ 0 ∧ AgB f cn ep (appT f cn ep L n P).2 gs) ∨ ((appT f cn ep L n P).1 = 0 ∧ AgB f cn ep (appT f cn ep L n P).2 (gs ++ [gD 19 n P])) := by
  have k := appT_keepsUp (ep := ep) (n := n) (P := P) h.up (by rw [h.size]; omega) h.al.N
  rcases app_cases (ep := ep) (n := n) (P := P) h.al with ⟨e0, _, e⟩ | ⟨h0, e0, al, nx, sz, eN, at_, out⟩ | ⟨h0, e0, _⟩
  · rw [e]; exact .inl ⟨e0, h⟩
  · refine .inr ⟨e0, al, k.1, k.2.2.1.trans h.size, k.2.1.trans h.N, ?_, ?_⟩
    · have := h.ct.app (cn := cn) (T := (appT f cn ep L n P).2.S) (by rw [h.size]; omega) he1 he hc hb h0 sz nx (fun j hj q _ => by rw [at_ j hj]) out
      rw [h.size] at this
      exact this
    · have := h.rs.app (T := (appT f cn ep L n P).2.S) nx out
      rw [sz]
      exact this
  · rw [appT_up h.up (by rw [h.size]; omega) h.al.N h0] at e0
    cases e0
end Go.Proofs.Ytdbfmllcapikkaa
/- LogWhole: its plain part. -/
namespace Go.Proofs.Ytdbfmllcapikkaa
open Go.RowKit
set_option linter.unusedVariables false
set_option linter.unusedSimpArgs false

/-- The elder groups of LogWhole: nothing lets the disk go down. -/
structure WhA (L : LS) : Prop where
  al : Alive 2 9 L
  up : Up L.S
  size : L.S.size = 64
  N : L.S.N = 12
  z : ∀ i, L.nx ≤ i → i < 9 → ∀ k, k < 64 → L.S.now (2 + i) k = 0
  e : ∀ i, i < L.nx → Elder 64 4 i (L.S.now (2 + i))
theorem WhA.step {L : LS} {n : Nat} {P : Nat → PutD} (h : WhA L) (hb : ∀ j, j < n → (P j).b < 256) : WhA (appT 2 9 3 L n P).2 := by
  have k := appT_keepsUp (ep := 3) (n := n) (P := P) h.up (by rw [h.size]; omega) h.al.N
  rcases app_cases (ep := 3) (n := n) (P := P) h.al with ⟨_, _, e⟩ | ⟨h0, _, al, nx, sz, eN, at_, out⟩ | ⟨h0, e0, _⟩
  · rw [e]; exact h
  · obtain ⟨z1, z2, z3, z4, z5⟩ := appR_zero h0 (by rw [h.size]; omega)
    refine ⟨al, k.1, sz.trans h.size, eN.trans h.N, fun i h1 h2 q hq => ?_, fun i hi => ?_⟩
    · rw [nx] at h1
      rw [out (2 + i) fun j hj => by omega]
      exact h.z i (by omega) h2 q hq
    · by_cases q : i < L.nx
      · rw [out (2 + i) fun j hj => by omega]; exact h.e i q
      · obtain ⟨j, rfl⟩ : ∃ j, i = L.nx + j := ⟨i - L.nx, by omega⟩
        rw [← Nat.add_assoc, at_ j (by omega), secL_as h.size (z4 j (by omega))]
        exact elder_sec (by omega) (by omega) (by omega) (by omega) (by omega) fun _ => hb j (by omega)
  · rw [appT_up h.up (by rw [h.size]; omega) h.al.N h0] at e0
    cases e0
theorem whA_first : WhA ⟨newS 12 64, 0, false⟩ :=
  ⟨⟨rfl, rfl, rfl, fun _ => rfl, Nat.zero_le _, ⟨by show 64 ≤ 64; omega, by show 64 ≤ 4096; omega⟩, by show 2 + 9 ≤ 12; omega⟩, ⟨rfl, rfl⟩, rfl, rfl, fun _ _ _ _ _ => rfl, fun i hi => absurd hi (by show ¬ i < 0; omega)⟩
/-- The newer groups. -/
structure WhB (L : LS) (gs : List (List Dc)) : Prop where
  al : Alive 2 9 L
  size : L.S.size = 64
  N : L.S.N = 12
  ct : Cont 2 4 L.S L.nx gs
  rs : Rest 2 9 (fun i F => Elder L.S.size 4 i F) L.S L.nx
theorem WhA.begin {L : LS} (h : WhA L) (dn : Int) : WhB ⟨armS L.S dn, 0, false⟩ [] := by
  refine ⟨⟨rfl, h.al.dn, h.al.lo, h.al.nf, Nat.zero_le _, h.al.sz, h.al.N⟩, h.size, h.N, Cont.zero _ _ _, fun i _ hi => ?_⟩
  show Elder L.S.size 4 i (L.S.now (2 + i))
  rw [h.size]
  by_cases q : i < L.nx
  · exact h.e i q
  · exact .inl (h.z i (by omega) hi)
/-- A group in the midst of which the disk went down. -/
structure WhF (L0 : LS) (gs : List (List Dc)) (n : Nat) (P : Nat → PutD) (L : LS) : Prop where
  b : WhB L0 gs
  r : appR 9 L0 n P = 0
  p : ∀ j, j < n → (P j).b < 256
  f : ∃ k, Fell 2 4 L0 n P L k
theorem WhB.step {L : LS} {gs : List (List Dc)} {n : Nat} {P : Nat → PutD} (h : WhB L gs) (hb : ∀ j, j < n → (P j).b < 256) :
    ((appT 2 9 4 L n P).1 ≠ 0 ∧ (appT 2 9 4 L n P).1 ≠ 4 ∧ WhB (appT 2 9 4 L n P).2 gs) ∨ ((appT 2 9 4 L n P).1 = 0 ∧ WhB (appT 2 9 4 L n P).2 (gs ++ [gD 19 n P])) ∨ ((appT 2 9 4 L n P).1 = 4 ∧ WhF L gs n P (appT 2 9 4 L n P).2) := by
  rcases app_cases (ep := 4) (n := n) (P := P) h.al with ⟨e0, e4, e⟩ | ⟨h0, e0, al, nx, sz, eN, at_, out⟩ | ⟨h0, e0, hf⟩
  · rw [e]; exact .inl ⟨e0, e4, h⟩
  · refine .inr (.inl ⟨e0, al, sz.trans h.size, eN.trans h.N, ?_, ?_⟩)
    · have := h.ct.app (cn := 9) (T := (appT 2 9 4 L n P).2.S) (by rw [h.size]; omega) (by omega) (by omega) (by omega) hb h0 sz nx (fun j hj q _ => by rw [at_ j hj]) out
      rw [h.size] at this
      exact this
    · have := h.rs.app (T := (appT 2 9 4 L n P).2.S) nx out
      rw [sz]
      exact this
  · exact .inr (.inr ⟨e0, h, h0, hb, hf⟩)
/-- Behind a crash, where the disk had not gone down. -/
theorem WhB.crash {L : LS} {gs : List (List Dc)} (h : WhB L gs) (fa : Nat → Int) (m : Nat) : Up (crashS L.S fa m) ∧ (crashS L.S fa m).size = 64 ∧ (crashS L.S fa m).N = 12 ∧ Cont 2 4 (crashS L.S fa m) L.nx gs ∧ Rest 2 9 (fun i F => ¬ isCh F ((crashS L.S fa m).size - 20) i 4) (crashS L.S fa m) L.nx := by
  have e : (crashS L.S fa m).now = L.S.now := (crash_quiet h.al.lo).1
  refine ⟨⟨rfl, rfl⟩, h.size, h.N, h.ct.keep h.al.sz.1 rfl fun i _ => by rw [e], fun i h1 h2 => ?_⟩
  rw [e]
  show ¬ isCh (L.S.now (2 + i)) (L.S.size - 20) i 4
  exact elder_no h.al.sz.1 (by omega) (by omega) (h.rs i h1 h2) (Nat.le_refl _) (by omega)
theorem WhF.crash {L0 L : LS} {gs : List (List Dc)} {n : Nat} {P : Nat → PutD} (h : WhF L0 gs n P L) (fa : Nat → Int) (m : Nat) : Up (crashS L.S fa m) ∧ (crashS L.S fa m).size = 64 ∧ (crashS L.S fa m).N = 12 := by
  obtain ⟨k, hk⟩ := h.f
  exact ⟨⟨rfl, rfl⟩, hk.w.size.trans h.b.size, hk.w.N.trans h.b.N⟩
theorem WhF.read {L0 L : LS} {gs : List (List Dc)} {n k' m : Nat} {P : Nat → PutD} {fa : Nat → Int} (h : WhF L0 gs n P L) (hk : k' ≤ 9) (hch : ∀ i, i < k' → chAt (crashS L.S fa m) 2 4 i) (hno : k' < 9 → ¬ chAt (crashS L.S fa m) 2 4 k') :
    (dTo (lastB (crashS L.S fa m) 2) (dcOf (crashS L.S fa m) 2) k').1 = gs ∨ (dTo (lastB (crashS L.S fa m) 2) (dcOf (crashS L.S fa m) 2) k').1 = gs ++ [gD 19 n P] := by
  obtain ⟨k, hF⟩ := h.f
  have := read_fell (fa := fa) (m := m) h.b.al h.b.ct h.b.rs (by omega) (by omega) (by omega) h.p h.r hF hk hch hno
  rw [h.b.size] at this
  exact this
theorem WhF.lo {L0 L : LS} {gs : List (List Dc)} {n : Nat} {P : Nat → PutD} (h : WhF L0 gs n P L) : L.dead = true := by
  obtain ⟨k, hk⟩ := h.f
  exact hk.dd
end Go.Proofs.Ytdbfmllcapikkaa
