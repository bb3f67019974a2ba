/- log's groups in memory: what Read gathers. -/
import Derived.Test.YtmeijienfdefjaaLSeq
import Derived.Test.YtmeijienfdefjaaMSeqMemA
import Derived.RangeFuncBox
import Derived.Maps.OwnIn
namespace Go.Proofs.Ytmeijienfdefjaa
open Go.RowKit
set_option linter.unusedVariables false
set_option linter.unusedSimpArgs false

/-- One slot's change put behind: groups that are whole, and the one that is not. -/
def gStep (last : Nat → Bool) (st : List (List Nat) × List Nat) (i : Nat) : List (List Nat) × List Nat := if last i = true then (st.1 ++ [st.2 ++ [i]], []) else (st.1, st.2 ++ [i])
def gTo (last : Nat → Bool) (k : Nat) : List (List Nat) × List Nat := (List.range k).foldl (gStep last) ([], [])
theorem gTo_succ (last : Nat → Bool) (k : Nat) : gTo last (k + 1) = gStep last (gTo last k) k := by unfold gTo; rw [List.range_succ, List.foldl_append]; rfl
theorem gTo_len (last : Nat → Bool) : ∀ k, (gTo last k).1.length ≤ k ∧ (gTo last k).2.length ≤ k := by
  intro k
  induction k with
  | zero => exact ⟨Nat.le_refl _, Nat.le_refl _⟩
  | succ k ih =>
    rw [gTo_succ]
    unfold gStep
    split
    · simp; omega
    · simp; omega
/-- A load that lies among the blocks X. -/
def LdX (X : Nat → Prop) (W : World) (m : Nat) (F : Nat → Nat) (v : Value) : Prop := ∃ b o d, v = .slice (some ⟨b, o, none⟩) (m - 25) d ∧ X b ∧ m - 25 ≤ d ∧ d ≤ 9223372036854775807 ∧ Bytes W (some ⟨b, o, none⟩) (m - 25) (fun j => F (25 + j))
def ChX (X : Nat → Prop) (W : World) (m : Nat) (F : Nat → Nat) (x : Int × Value) : Prop := x.1 = pageI F ∧ LdX X W m F x.2
def chCells (ls : List (Int × Value)) : List Value := ls.flatMap fun x => [.int .i64 x.1, x.2]
theorem chCells_snoc (ls : List (Int × Value)) (x : Int × Value) : chCells (ls ++ [x]) = chCells ls ++ [.int .i64 x.1, x.2] := by simp [chCells]
theorem chCells_len (ls : List (Int × Value)) : (chCells ls).length = ls.length * 2 := by
  unfold chCells
  induction ls with
  | nil => rfl
  | cons w l ih => rw [List.flatMap_cons, List.length_append, ih]; simp; omega
def RowX (X : Nat → Prop) (W : World) (m : Nat) (Fs : Nat → Nat → Nat) (g : List Nat) (ls : List (Int × Value)) : Prop := ls.length = g.length ∧ ∀ (j i : Nat) (x : Int × Value), g[j]? = some i → ls[j]? = some x → ChX X W m (Fs i) x
/-- A group that is whole. -/
def GrpX (X : Nat → Prop) (W : World) (m : Nat) (Fs : Nat → Nat → Nat) (g : List Nat) (v : Value) : Prop :=
  ∃ b c ls, v = .slice (some ⟨b, 0, none⟩) g.length c ∧ X b ∧ g.length ≤ c ∧ c ≤ 9223372036854775807 ∧ RowX X W m Fs g ls ∧ ∀ j u, (chCells ls)[j]? = some u → W.cell? ⟨b, j, none⟩ = some u
/-- What lies among X can be read as before. -/
def KeepX (X : Nat → Prop) (W W' : World) : Prop := ∀ b o v, X b → W.cell? ⟨b, o, none⟩ = some v → W'.cell? ⟨b, o, none⟩ = some v
theorem KeepX.heap {X : Nat → Prop} {W W' : World} (h : ∀ b, X b → W'.heap[b]? = W.heap[b]?) : KeepX X W W' := fun b o v hb e => (World.cell?_of_block (w := W) (a := ⟨b, o, none⟩) (h b hb)).trans e
theorem LdX.keep {X X' : Nat → Prop} {W W' : World} {m : Nat} {F : Nat → Nat} {v : Value} (h : LdX X W m F v) (k : KeepX X W W') (hX : ∀ b, X b → X' b) : LdX X' W' m F v := by
  obtain ⟨b, o, d, rfl, h1, h2, h3, h4⟩ := h
  refine ⟨b, o, d, rfl, hX b h1, h2, h3, h4.1, h4.2.1, fun hn => ?_⟩
  obtain ⟨b', o', e, hc⟩ := h4.2.2 hn
  injection e with e
  injection e with e1 e2
  subst e1 e2
  exact ⟨b, o, rfl, fun i hi => k b _ _ h1 (hc i hi)⟩
theorem ChX.keep {X X' : Nat → Prop} {W W' : World} {m : Nat} {F : Nat → Nat} {x : Int × Value} (h : ChX X W m F x) (k : KeepX X W W') (hX : ∀ b, X b → X' b) : ChX X' W' m F x := ⟨h.1, h.2.keep k hX⟩
theorem RowX.keep {X X' : Nat → Prop} {W W' : World} {m : Nat} {Fs : Nat → Nat → Nat} {g : List Nat} {ls : List (Int × Value)} (h : RowX X W m Fs g ls) (k : KeepX X W W') (hX : ∀ b, X b → X' b) : RowX X' W' m Fs g ls :=
  ⟨h.1, fun j i x h1 h2 => (h.2 j i x h1 h2).keep k hX⟩
theorem GrpX.keep {X X' : Nat → Prop} {W W' : World} {m : Nat} {Fs : Nat → Nat → Nat} {g : List Nat} {v : Value} (h : GrpX X W m Fs g v) (k : KeepX X W W') (hX : ∀ b, X b → X' b) : GrpX X' W' m Fs g v := by
  obtain ⟨b, c, ls, e, h1, h2, h3, h4, h5⟩ := h
  exact ⟨b, c, ls, e, hX b h1, h2, h3, h4.keep k hX, fun j u hu => k b _ _ h1 (h5 j u hu)⟩
theorem RowX.snoc {X : Nat → Prop} {W : World} {m : Nat} {Fs : Nat → Nat → Nat} {g : List Nat} {ls : List (Int × Value)} (h : RowX X W m Fs g ls) {i : Nat} {x : Int × Value} (hx : ChX X W m (Fs i) x) : RowX X W m Fs (g ++ [i]) (ls ++ [x]) := by
  refine ⟨by simp [h.1], fun j i' x' h1 h2 => ?_⟩
  by_cases hj : j < g.length
  · rw [List.getElem?_append_left hj] at h1
    rw [List.getElem?_append_left (by rw [h.1]; exact hj)] at h2
    exact h.2 j i' x' h1 h2
  · rw [List.getElem?_append_right (by omega)] at h1
    rw [List.getElem?_append_right (by rw [h.1]; omega)] at h2
    rw [h.1] at h2
    match hq : j - g.length with
    | 0 =>
      rw [hq] at h1 h2
      simp at h1 h2
      subst h1 h2
      exact hx
    | q + 1 => rw [hq] at h1; simp at h1
/-- What Read has gathered, in its two boxes; X: the blocks of whole groups and of loads. -/
abbrev GP (w0 : World) (n1 bG bg m : Nat) (Fs : Nat → Nat → Nat) (gs : List (List Nat)) (g : List Nat) (X : Nat → Prop) (vG vg : Value) (vs : List Value) (ls : List (Int × Value)) (W : World) : Prop :=
    Boxed W bG 32 vG ∧ Boxed W bg 38 vg ∧ W.ownsRow n1 38 1 vG gs.length vs ∧ (∀ (j : Nat) (v : Value) (g' : List Nat), vs[j]? = some v → gs[j]? = some g' → GrpX X W m Fs g' v) ∧
    W.ownsRow n1 44 2 vg g.length (chCells ls) ∧ RowX X W m Fs g ls ∧ (∀ b, X b → n1 ≤ b ∧ b < W.heap.size ∧ some b ≠ vG.ownBlock ∧ some b ≠ vg.ownBlock) ∧ Below w0.heap.size w0 W ∧ n1 ≤ W.heap.size ∧ (g = [] → vg = .slice none 0 0) ∧ (gs = [] → vG = .slice none 0 0)
def GI (w0 : World) (n1 bG bg m : Nat) (Fs : Nat → Nat → Nat) (gs : List (List Nat)) (g : List Nat) (W : World) : Prop :=
  ∃ (X : Nat → Prop) (vG vg : Value) (vs : List Value) (ls : List (Int × Value)), GP w0 n1 bG bg m Fs gs g X vG vg vs ls W
/-- New memory, some of it to be counted among X. -/
theorem GP.ext {w0 W W' : World} {n1 bG bg m : Nat} {Fs : Nat → Nat → Nat} {gs : List (List Nat)} {g : List Nat} {X : Nat → Prop} {vG vg : Value} {vs : List Value} {ls : List (Int × Value)} (h : GP w0 n1 bG bg m Fs gs g X vG vg vs ls W) (l : Below W.heap.size W W')
    (Xn : Nat → Prop) (hn : ∀ b, Xn b → W.heap.size ≤ b ∧ b < W'.heap.size) : GP w0 n1 bG bg m Fs gs g (fun b => X b ∨ Xn b) vG vg vs ls W' := by
  obtain ⟨h1, h2, h3, h4, h5, h6, h7, h8, h9, h10, h11⟩ := h
  have hk : KeepX X W W' := KeepX.heap fun b hb => l.block b (h7 b hb).2.1
  have hg := grown_below (r := none) l
  have own : ∀ {e size n : Nat} {v : Value} {xs : List Value}, W.ownsRow n1 e size v n xs → W'.ownsRow n1 e size v n xs := fun {e size n v xs} ho => ho.kept hg (by
    cases hv : v.ownBlock with
    | none => exact .inl rfl
    | some q => exact .inr (by simp))
  refine ⟨(l.block _ h1.lt).trans h1, (l.block _ h2.lt).trans h2, own h3, fun j v g' a b => (h4 j v g' a b).keep hk fun _ x => .inl x, own h5, h6.keep hk fun _ x => .inl x, fun b hb => ?_, h8.trans (l.mono h8.size), Nat.le_trans h9 l.size, h10, h11⟩
  rcases hb with hb | hb
  · exact ⟨(h7 b hb).1, Nat.lt_of_lt_of_le (h7 b hb).2.1 l.size, (h7 b hb).2.2⟩
  · obtain ⟨q1, q2⟩ := hn b hb
    have ne : ∀ {e size n : Nat} {v : Value} {xs : List Value}, W.ownsRow n1 e size v n xs → some b ≠ v.ownBlock := fun {e size n v xs} ho e' => by
      have := (ho.lt b e'.symm).2
      omega
    exact ⟨Nat.le_trans h9 q1, q2, ne h3, ne h5⟩
theorem GI.below {w0 W W' : World} {n1 bG bg m : Nat} {Fs : Nat → Nat → Nat} {gs : List (List Nat)} {g : List Nat} (h : GI w0 n1 bG bg m Fs gs g W) (l : Below W.heap.size W W') : GI w0 n1 bG bg m Fs gs g W' := by
  obtain ⟨X, vG, vg, vs, ls, h1, h2, h3, h4, h5, h6, h7, h8, h9, h10, h11⟩ := h
  have hk : KeepX X W W' := KeepX.heap fun b hb => l.block b (h7 b hb).2.1
  have hg := grown_below (r := none) l
  have own : ∀ {e size n : Nat} {v : Value} {xs : List Value}, W.ownsRow n1 e size v n xs → W'.ownsRow n1 e size v n xs := fun {e size n v xs} ho => ho.kept hg (by
    cases hv : v.ownBlock with
    | none => exact .inl rfl
    | some q => exact .inr (by simp))
  exact ⟨X, vG, vg, vs, ls, (l.block _ h1.lt).trans h1, (l.block _ h2.lt).trans h2, own h3, fun j v g' a b => (h4 j v g' a b).keep hk fun _ x => x, own h5, h6.keep hk fun _ x => x, fun b hb => ⟨(h7 b hb).1, Nat.lt_of_lt_of_le (h7 b hb).2.1 l.size, (h7 b hb).2.2⟩, h8.trans (l.mono h8.size), Nat.le_trans h9 l.size, h10, h11⟩
theorem own_other {W W' : World} {row : Option Nat} {base e size n : Nat} {v : Value} {xs : List Value} (h : W.ownsRow base e size v n xs) (hg : W.grownBy W' row) (hr : ∀ r, row = some r → ∃ o : Obj, W.heap[r]? = some o ∧ o.isCells = false) : W'.ownsRow base e size v n xs := by
  refine h.kept hg ?_
  rcases h.2 with ⟨rfl, _⟩ | ⟨g, cap, cur, rfl, _, hgb, _⟩
  · exact .inl rfl
  · refine .inr fun e' => ?_
    obtain ⟨o, ho, hc⟩ := hr g (by simpa [Value.ownBlock] using e'.symm)
    rw [hgb] at ho; cases ho; cases hc
theorem boxed_other {W W' : World} {row : Option Nat} {B : Nat} {t : TypeId} {v : Value} (h : Boxed W B t v) (hg : W.grownBy W' row) (hr : ∀ r, row = some r → ∃ o : Obj, W.heap[r]? = some o ∧ o.isCells = false) : Boxed W' B t v :=
  h.kept hg fun e' => by
    obtain ⟨o, ho, hc⟩ := hr B e'.symm
    rw [show W.heap[B]? = _ from h] at ho; cases ho; cases hc
theorem GI.own {n1 bG bg m : Nat} {Fs : Nat → Nat → Nat} {w0 : World} {B : Nat} (hB : w0.heap.size ≤ B) : OwnFrom B (fun (s : List (List Nat) × List Nat) W => GI w0 n1 bG bg m Fs s.1 s.2 W) := by
  rintro s W W' row ⟨X, vG, vg, vs, ls, h1, h2, h3, h4, h5, h6, h7, h8, h9, h10, h11⟩ hg hr0
  have hr : ∀ r, row = some r → ∃ o : Obj, W.heap[r]? = some o ∧ o.isCells = false := fun r e => (hr0 r e).2
  have hk : KeepX X W W' := fun b o v hb e => cell_kept e hg hr
  refine ⟨X, vG, vg, vs, ls, boxed_other h1 hg hr, boxed_other h2 hg hr, own_other h3 hg hr, fun j v g' a b => (h4 j v g' a b).keep hk fun _ x => x, own_other h5 hg hr, h6.keep hk fun _ x => x, fun b hb => ⟨(h7 b hb).1, Nat.lt_of_lt_of_le (h7 b hb).2.1 hg.size, (h7 b hb).2.2⟩, h8.grown hg h8.size (fun j hj => Nat.le_trans hB (hr0 j hj).1), Nat.le_trans h9 hg.size, h10, h11⟩
/-- A change put behind the group: behind the append and the store into its box. -/
theorem GI.push {w0 W w9 : World} {n1 bG bg m i : Nat} {Fs : Nat → Nat → Nat} {gs : List (List Nat)} {g : List Nat} {X : Nat → Prop} {vG vg v2 : Value} {vs : List Value} {ls : List (Int × Value)} {pg : Int} {ld : Value}
    (h1 : Boxed W bG 32 vG) (h2 : Boxed W bg 38 vg) (h3 : W.ownsRow n1 38 1 vG gs.length vs) (h4 : ∀ (j : Nat) (v : Value) (g' : List Nat), vs[j]? = some v → gs[j]? = some g' → GrpX X W m Fs g' v)
    (h5 : W.ownsRow n1 44 2 vg g.length (chCells ls)) (h6 : RowX X W m Fs g ls) (h7 : ∀ b, X b → n1 ≤ b ∧ b < W.heap.size ∧ some b ≠ vG.ownBlock ∧ some b ≠ vg.ownBlock) (h8 : Below w0.heap.size w0 W) (h9 : n1 ≤ W.heap.size) (h11 : gs = [] → vG = .slice none 0 0)
    (hw0 : w0.heap.size ≤ n1) (hb0 : w0.heap.size ≤ bg) (hne : bG ≠ bg) (hbg : bg < n1) (hx : ChX X W m (Fs i) (pg, ld)) (hown : w9.ownsRow n1 44 2 v2 (g.length + 1) (chCells ls ++ [.int .i64 pg, ld])) (hgr : W.grownBy w9 vg.ownBlock) (hat : v2.ownBlock = vg.ownBlock ∨ ∃ q, v2.ownBlock = some q ∧ W.heap.size ≤ q) :
    GP w0 n1 bG bg m Fs gs (g ++ [i]) X vG v2 vs (ls ++ [(pg, ld)]) (w9.setCell ⟨bg, 0, none⟩ v2) := by
  have hlt := fun b hb => (h7 b hb).2.1
  have e1 : some bG ≠ vg.ownBlock := h1.not_row (by decide) h5
  have e2 : some bg ≠ vg.ownBlock := h2.not_row (by decide) h5
  have hset : ∀ q, q ≠ bg → (w9.setCell ⟨bg, 0, none⟩ v2).heap[q]? = w9.heap[q]? := fun q hq => Below.heap_setCell _ _ _ _ hq
  have hk : KeepX X W (w9.setCell ⟨bg, 0, none⟩ v2) := KeepX.heap fun b hb => by
    have q := h7 b hb
    exact (hset b (by omega)).trans (hgr.block b q.2.1 q.2.2.2)
  have hsz : (w9.setCell ⟨bg, 0, none⟩ v2).heap.size = w9.heap.size := by simp [World.setCell]
  have hvG : vG.ownBlock = none ∨ vG.ownBlock ≠ vg.ownBlock := by
    rcases h3.2 with ⟨rfl, _⟩ | ⟨q, cap, cur, rfl, _, hgb, _⟩
    · exact .inl rfl
    · refine .inr fun e' => ?_
      rcases h5.2 with ⟨rfl, _⟩ | ⟨q2, cap2, cur2, rfl, _, hgb2, _⟩
      · simp [Value.ownBlock] at e'
      · obtain rfl : q = q2 := by simpa [Value.ownBlock] using e'
        rw [hgb] at hgb2
        injection hgb2 with hgb2
        injection hgb2 with _ ht _
        exact absurd ht (by decide)
  have b9 : Boxed w9 bg 38 vg := h2.kept hgr e2
  refine ⟨(hset bG hne).trans (h1.kept hgr e1), b9.set v2, ?_, fun j v g' a b => (h4 j v g' a b).keep hk fun _ x => x, ?_, (h6.snoc hx).keep hk fun _ x => x, fun b hb => ?_, ?_, by rw [hsz]; exact Nat.le_trans h9 hgr.size, fun e => by simp at e, h11⟩
  · refine (h3.kept hgr hvG).kept (grownBy_setCell' w9 bg v2) ?_
    cases hv : vG.ownBlock with
    | none => exact .inl rfl
    | some q => exact .inr (fun e => by injection e with e; have := (h3.lt q hv).1; omega)
  · rw [chCells_snoc, show (g ++ [i]).length = g.length + 1 by simp]
    refine hown.kept (grownBy_setCell' w9 bg v2) ?_
    cases hv : v2.ownBlock with
    | none => exact .inl rfl
    | some q => exact .inr (fun e => by injection e with e; have := (hown.lt q hv).1; omega)
  · obtain ⟨q1, q2, q3, q4⟩ := h7 b hb
    refine ⟨q1, by rw [hsz]; exact Nat.lt_of_lt_of_le q2 hgr.size, q3, ?_⟩
    rcases hat with ha | ⟨q, ha, hq⟩
    · rw [ha]; exact q4
    · rw [ha]; intro e; injection e with e; omega
  · exact (h8.grown hgr h8.size (fun j hj => by have := (h5.lt j hj).1; omega)).setCell (p := ⟨bg, 0, none⟩) hb0 _
/-- The group is whole: behind the append to the groups and the stores into both boxes. -/
theorem GI.close {w0 W w9 : World} {n1 bG bg m : Nat} {Fs : Nat → Nat → Nat} {gs : List (List Nat)} {g : List Nat} {X : Nat → Prop} {vG v2 : Value} {b0 c0 : Nat} {vs : List Value} {ls : List (Int × Value)}
    (h1 : Boxed W bG 32 vG) (h2 : Boxed W bg 38 (.slice (some ⟨b0, 0, none⟩) g.length c0)) (h3 : W.ownsRow n1 38 1 vG gs.length vs) (h4 : ∀ (j : Nat) (v : Value) (g' : List Nat), vs[j]? = some v → gs[j]? = some g' → GrpX X W m Fs g' v)
    (h5 : W.ownsRow n1 44 2 (.slice (some ⟨b0, 0, none⟩) g.length c0) g.length (chCells ls)) (h6 : RowX X W m Fs g ls) (h7 : ∀ b, X b → n1 ≤ b ∧ b < W.heap.size ∧ some b ≠ vG.ownBlock ∧ some b ≠ (Value.slice (some ⟨b0, 0, none⟩) g.length c0).ownBlock) (h8 : Below w0.heap.size w0 W) (h9 : n1 ≤ W.heap.size)
    (hw0 : w0.heap.size ≤ n1) (hb0 : w0.heap.size ≤ bg) (hbG0 : w0.heap.size ≤ bG) (hne : bG ≠ bg) (hbg : bg < n1) (hbG : bG < n1) (hown : w9.ownsRow n1 38 1 v2 (gs.length + 1) (vs ++ [.slice (some ⟨b0, 0, none⟩) g.length c0])) (hgr : W.grownBy w9 vG.ownBlock) (hat : v2.ownBlock = vG.ownBlock ∨ ∃ q, v2.ownBlock = some q ∧ W.heap.size ≤ q) :
    GP w0 n1 bG bg m Fs (gs ++ [g]) [] (fun b => X b ∨ b = b0) v2 (.slice none 0 0) (vs ++ [.slice (some ⟨b0, 0, none⟩) g.length c0]) [] ((w9.setCell ⟨bG, 0, none⟩ v2).setCell ⟨bg, 0, none⟩ (.slice none 0 0)) := by
  have e1 : some bG ≠ vG.ownBlock := h1.not_row (by decide) h3
  have e2 : some bg ≠ vG.ownBlock := by
    rcases h3.2 with ⟨rfl, _⟩ | ⟨q, cap, cur, rfl, hq, hgb, _⟩
    · simp [Value.ownBlock]
    · intro e'
      obtain rfl : bg = q := by simpa [Value.ownBlock] using e'
      omega
  have hb0o : n1 ≤ b0 ∧ b0 < W.heap.size := h5.lt b0 rfl
  have e3 : some b0 ≠ vG.ownBlock := by
    rcases h3.2 with ⟨rfl, _⟩ | ⟨q, cap, cur, rfl, hq, hgb, _⟩
    · simp [Value.ownBlock]
    · intro e'
      obtain rfl : b0 = q := by simpa [Value.ownBlock] using e'
      rcases h5.2 with ⟨e, _⟩ | ⟨q2, cap2, cur2, e, _, hgb2, _⟩
      · cases e
      · injection e with e _ _
        injection e with e
        injection e with e _ _
        subst e
        rw [hgb] at hgb2
        injection hgb2 with hgb2
        injection hgb2 with _ ht _
        exact absurd ht (by decide)
  have hset : ∀ q, q ≠ bG → q ≠ bg → ((w9.setCell ⟨bG, 0, none⟩ v2).setCell ⟨bg, 0, none⟩ (.slice none 0 0)).heap[q]? = w9.heap[q]? := fun q h1 h2 => (Below.heap_setCell _ _ _ _ h2).trans (Below.heap_setCell _ _ _ _ h1)
  have hk2 : ∀ b, (X b ∨ b = b0) → ((w9.setCell ⟨bG, 0, none⟩ v2).setCell ⟨bg, 0, none⟩ (.slice none 0 0)).heap[b]? = W.heap[b]? := fun b hb => by
    have q : n1 ≤ b ∧ b < W.heap.size ∧ some b ≠ vG.ownBlock := by
      rcases hb with hb | rfl
      · exact ⟨(h7 b hb).1, (h7 b hb).2.1, (h7 b hb).2.2.1⟩
      · exact ⟨hb0o.1, hb0o.2, e3⟩
    exact (hset b (by omega) (by omega)).trans (hgr.block b q.2.1 q.2.2)
  have hk : KeepX X W ((w9.setCell ⟨bG, 0, none⟩ v2).setCell ⟨bg, 0, none⟩ (.slice none 0 0)) := KeepX.heap fun b hb => hk2 b (.inl hb)
  have hsz : ((w9.setCell ⟨bG, 0, none⟩ v2).setCell ⟨bg, 0, none⟩ (.slice none 0 0)).heap.size = w9.heap.size := by simp [World.setCell]
  have bG9 : Boxed (w9.setCell ⟨bG, 0, none⟩ v2) bG 32 v2 := (h1.kept hgr e1).set v2
  have bg9 : Boxed (w9.setCell ⟨bG, 0, none⟩ v2) bg 38 (.slice (some ⟨b0, 0, none⟩) g.length c0) := (Below.heap_setCell _ _ _ _ (Ne.symm hne)).trans (h2.kept hgr e2)
  have hcell : ∀ j u, (chCells ls)[j]? = some u → W.cell? ⟨b0, j, none⟩ = some u := fun j u hu => by
    obtain ⟨hj, _⟩ := List.getElem?_eq_some_iff.1 hu
    have hl := h5.1
    have := World.ownsRow.cellAt (w := W) (base := n1) (e := 44) (size := 2) h5 j (by omega)
    rw [this]; exact hu
  have hcap : g.length ≤ c0 ∧ c0 ≤ 9223372036854775807 := by
    rcases h5.2 with ⟨e, _⟩ | ⟨q2, cap2, cur2, e, _, _, a1, a2, _⟩
    · cases e
    · injection e with _ _ e
      subst e
      exact ⟨a1, by unfold maxLen at a2; exact a2⟩
  refine ⟨(Below.heap_setCell _ _ _ _ hne).trans bG9, bg9.set _, ?_, fun j v g' a b => ?_, World.ownsRow_nil _ _ _ _, ⟨rfl, fun j i x h1 _ => by simp at h1⟩, fun b hb => ?_, ?_, by rw [hsz]; exact Nat.le_trans h9 hgr.size, fun _ => rfl, fun e => by simp at e⟩
  · rw [show (gs ++ [g]).length = gs.length + 1 by simp]
    have q : ∀ {B : Nat}, B < n1 → v2.ownBlock = none ∨ v2.ownBlock ≠ some B := fun {B} hB => by
      cases hv : v2.ownBlock with
      | none => exact .inl rfl
      | some q => exact .inr (fun e => by injection e with e; have := (hown.lt q hv).1; omega)
    exact (hown.kept (grownBy_setCell' w9 bG v2) (q hbG)).kept (grownBy_setCell' _ bg _) (q hbg)
  · have hl := h3.1
    rw [Nat.mul_one] at hl
    by_cases hj : j < gs.length
    · rw [List.getElem?_append_left (by omega)] at a
      rw [List.getElem?_append_left hj] at b
      exact (h4 j v g' a b).keep hk fun _ x => .inl x
    · rw [List.getElem?_append_right (by omega)] at a
      rw [List.getElem?_append_right (by omega)] at b
      rw [hl] at a
      match hq : j - gs.length with
      | 0 =>
        rw [hq] at a b
        simp at a b
        subst a b
        exact ⟨b0, c0, ls, rfl, .inr rfl, hcap.1, hcap.2, h6.keep hk fun _ x => .inl x, fun j u hu => (World.cell?_of_block (w := W) (a := ⟨b0, j, none⟩) (hk2 b0 (.inr rfl))).trans (hcell j u hu)⟩
      | q + 1 => rw [hq] at a; simp at a
  · rw [hsz]
    have hv2 : ∀ b, b < W.heap.size → some b ≠ vG.ownBlock → some b ≠ v2.ownBlock := fun b hb1 hb2 => by
      rcases hat with ha | ⟨q, ha, hq⟩
      · rw [ha]; exact hb2
      · rw [ha]; intro e; injection e with e; omega
    rcases hb with hb | rfl
    · obtain ⟨q1, q2, q3, q4⟩ := h7 b hb
      exact ⟨q1, Nat.lt_of_lt_of_le q2 hgr.size, hv2 b q2 q3, by simp [Value.ownBlock]⟩
    · exact ⟨hb0o.1, Nat.lt_of_lt_of_le hb0o.2 hgr.size, hv2 b hb0o.2 e3, by simp [Value.ownBlock]⟩
  · exact ((h8.grown hgr h8.size (fun j hj => by have := (h3.lt j hj).1; omega)).setCell (p := ⟨bG, 0, none⟩) hbG0 _).setCell (p := ⟨bg, 0, none⟩) hb0 _
end Go.Proofs.Ytmeijienfdefjaa
