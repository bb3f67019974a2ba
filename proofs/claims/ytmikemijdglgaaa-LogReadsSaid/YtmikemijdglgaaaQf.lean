/- Merged texts: LGrp, LRead, LNilC, LAwakeP, LAwake, LGroup, LLight, LArgs, LRdArg, LLatest. -/
import Derived.Test.YtmikemijdglgaaaQe
import Derived.RangeFuncBox
import Derived.Maps.OwnIn
import Derived.ProofKit
import Derived.OpenShut
import Derived.Lib.SmallJoins
import Derived.Deep.Slices
import Derived.Deep.Strs
/- log's groups in memory: what Read gathers. -/
namespace Go.Proofs.Ytmikemijdglgaaa
open Go.RowKit
set_option linter.unusedVariables false
set_option linter.unusedSimpArgs false

/-- One slot's change put behind: groups that are whole, and the one that is not. -/
def gStep (last : Nat → Bool) (st : List (List Nat) × List Nat) (i : Nat) : List (List Nat) × List Nat := if last i = true then (st.1 ++ [st.2 ++ [i]], []) else (st.1, st.2 ++ [i])
def gTo (last : Nat → Bool) (k : Nat) : List (List Nat) × List Nat := (List.range k).foldl (gStep last) ([], [])
theorem gTo_succ (last : Nat → Bool) (k : Nat) : gTo last (k + 1) = gStep last (gTo last k) k := by unfold gTo; rw [List.range_succ, List.foldl_append]; rfl
theorem gTo_len (last : Nat → Bool) : ∀ k, (gTo last k).1.length ≤ k ∧ (gTo last k).2.length ≤ k := by
  intro k
  induction k with
  | zero => exact ⟨Nat.le_refl _, Nat.le_refl _⟩
  | succ k ih =>
    rw [gTo_succ]
    unfold gStep
    split
    · simp; omega
    · simp; omega
/-- A load that lies among the blocks X. -/
def LdX (X : Nat → Prop) (W : World) (m : Nat) (F : Nat → Nat) (v : Value) : Prop := ∃ b o d, v = .slice (some ⟨b, o, none⟩) (m - 25) d ∧ X b ∧ m - 25 ≤ d ∧ d ≤ 9223372036854775807 ∧ Bytes W (some ⟨b, o, none⟩) (m - 25) (fun j => F (25 + j))
def ChX (X : Nat → Prop) (W : World) (m : Nat) (F : Nat → Nat) (x : Int × Value) : Prop := x.1 = pageI F ∧ LdX X W m F x.2
def chCells (ls : List (Int × Value)) : List Value := ls.flatMap fun x => [.int .i64 x.1, x.2]
theorem chCells_snoc (ls : List (Int × Value)) (x : Int × Value) : chCells (ls ++ [x]) = chCells ls ++ [.int .i64 x.1, x.2] := by simp [chCells]
theorem chCells_len (ls : List (Int × Value)) : (chCells ls).length = ls.length * 2 := by
  unfold chCells
  induction ls with
  | nil => rfl
  | cons w l ih => rw [List.flatMap_cons, List.length_append, ih]; simp; omega
def RowX (X : Nat → Prop) (W : World) (m : Nat) (Fs : Nat → Nat → Nat) (g : List Nat) (ls : List (Int × Value)) : Prop := ls.length = g.length ∧ ∀ (j i : Nat) (x : Int × Value), g[j]? = some i → ls[j]? = some x → ChX X W m (Fs i) x
/-- A group that is whole. -/
def GrpX (X : Nat → Prop) (W : World) (m : Nat) (Fs : Nat → Nat → Nat) (g : List Nat) (v : Value) : Prop :=
  ∃ b c ls, v = .slice (some ⟨b, 0, none⟩) g.length c ∧ X b ∧ g.length ≤ c ∧ c ≤ 9223372036854775807 ∧ RowX X W m Fs g ls ∧ ∀ j u, (chCells ls)[j]? = some u → W.cell? ⟨b, j, none⟩ = some u
/-- What lies among X can be read as before. -/
def KeepX (X : Nat → Prop) (W W' : World) : Prop := ∀ b o v, X b → W.cell? ⟨b, o, none⟩ = some v → W'.cell? ⟨b, o, none⟩ = some v
theorem KeepX.heap {X : Nat → Prop} {W W' : World} (h : ∀ b, X b → W'.heap[b]? = W.heap[b]?) : KeepX X W W' := fun b o v hb e => (World.cell?_of_block (w := W) (a := ⟨b, o, none⟩) (h b hb)).trans e
theorem LdX.keep {X X' : Nat → Prop} {W W' : World} {m : Nat} {F : Nat → Nat} {v : Value} (h : LdX X W m F v) (k : KeepX X W W') (hX : ∀ b, X b → X' b) : LdX X' W' m F v := by
  obtain ⟨b, o, d, rfl, h1, h2, h3, h4⟩ := h
  refine ⟨b, o, d, rfl, hX b h1, h2, h3, h4.1, h4.2.1, fun hn => ?_⟩
  obtain ⟨b', o', e, hc⟩ := h4.2.2 hn
  injection e with e
  injection e with e1 e2
  subst e1 e2
  exact ⟨b, o, rfl, fun i hi => k b _ _ h1 (hc i hi)⟩
theorem ChX.keep {X X' : Nat → Prop} {W W' : World} {m : Nat} {F : Nat → Nat} {x : Int × Value} (h : ChX X W m F x) (k : KeepX X W W') (hX : ∀ b, X b → X' b) : ChX X' W' m F x := ⟨h.1, h.2.keep k hX⟩
theorem RowX.keep {X X' : Nat → Prop} {W W' : World} {m : Nat} {Fs : Nat → Nat → Nat} {g : List Nat} {ls : List (Int × Value)} (h : RowX X W m Fs g ls) (k : KeepX X W W') (hX : ∀ b, X b → X' b) : RowX X' W' m Fs g ls :=
  ⟨h.1, fun j i x h1 h2 => (h.2 j i x h1 h2).keep k hX⟩
theorem GrpX.keep {X X' : Nat → Prop} {W W' : World} {m : Nat} {Fs : Nat → Nat → Nat} {g : List Nat} {v : Value} (h : GrpX X W m Fs g v) (k : KeepX X W W') (hX : ∀ b, X b → X' b) : GrpX X' W' m Fs g v := by
  obtain ⟨b, c, ls, e, h1, h2, h3, h4, h5⟩ := h
  exact ⟨b, c, ls, e, hX b h1, h2, h3, h4.keep k hX, fun j u hu => k b _ _ h1 (h5 j u hu)⟩
theorem RowX.snoc {X : Nat → Prop} {W : World} {m : Nat} {Fs : Nat → Nat → Nat} {g : List Nat} {ls : List (Int × Value)} (h : RowX X W m Fs g ls) {i : Nat} {x : Int × Value} (hx : ChX X W m (Fs i) x) : RowX X W m Fs (g ++ [i]) (ls ++ [x]) := by
  refine ⟨by simp [h.1], fun j i' x' h1 h2 => ?_⟩
  by_cases hj : j < g.length
  · rw [List.getElem?_append_left hj] at h1
    rw [List.getElem?_append_left (by rw [h.1]; exact hj)] at h2
    exact h.2 j i' x' h1 h2
  · rw [List.getElem?_append_right (by omega)] at h1
    rw [List.getElem?_append_right (by rw [h.1]; omega)] at h2
    rw [h.1] at h2
    match hq : j - g.length with
    | 0 =>
      rw [hq] at h1 h2
      simp at h1 h2
      subst h1 h2
      exact hx
    | q + 1 => rw [hq] at h1; simp at h1
/-- What Read has gathered, in its two boxes; X: the blocks of whole groups and of loads. -/
abbrev GP (w0 : World) (n1 bG bg m : Nat) (Fs : Nat → Nat → Nat) (gs : List (List Nat)) (g : List Nat) (X : Nat → Prop) (vG vg : Value) (vs : List Value) (ls : List (Int × Value)) (W : World) : Prop :=
    Boxed W bG 32 vG ∧ Boxed W bg 38 vg ∧ W.ownsRow n1 38 1 vG gs.length vs ∧ (∀ (j : Nat) (v : Value) (g' : List Nat), vs[j]? = some v → gs[j]? = some g' → GrpX X W m Fs g' v) ∧
    W.ownsRow n1 44 2 vg g.length (chCells ls) ∧ RowX X W m Fs g ls ∧ (∀ b, X b → n1 ≤ b ∧ b < W.heap.size ∧ some b ≠ vG.ownBlock ∧ some b ≠ vg.ownBlock) ∧ Below w0.heap.size w0 W ∧ n1 ≤ W.heap.size ∧ (g = [] → vg = .slice none 0 0) ∧ (gs = [] → vG = .slice none 0 0)
def GI (w0 : World) (n1 bG bg m : Nat) (Fs : Nat → Nat → Nat) (gs : List (List Nat)) (g : List Nat) (W : World) : Prop :=
  ∃ (X : Nat → Prop) (vG vg : Value) (vs : List Value) (ls : List (Int × Value)), GP w0 n1 bG bg m Fs gs g X vG vg vs ls W
/-- New memory, some of it to be counted among X. -/
theorem GP.ext {w0 W W' : World} {n1 bG bg m : Nat} {Fs : Nat → Nat → Nat} {gs : List (List Nat)} {g : List Nat} {X : Nat → Prop} {vG vg : Value} {vs : List Value} {ls : List (Int × Value)} (h : GP w0 n1 bG bg m Fs gs g X vG vg vs ls W) (l : Below W.heap.size W W')
    (Xn : Nat → Prop) (hn : ∀ b, Xn b → W.heap.size ≤ b ∧ b < W'.heap.size) : GP w0 n1 bG bg m Fs gs g (fun b => X b ∨ Xn b) vG vg vs ls W' := by
  obtain ⟨h1, h2, h3, h4, h5, h6, h7, h8, h9, h10, h11⟩ := h
  have hk : KeepX X W W' := KeepX.heap fun b hb => l.block b (h7 b hb).2.1
  have hg := grown_below (r := none) l
  have own : ∀ {e size n : Nat} {v : Value} {xs : List Value}, W.ownsRow n1 e size v n xs → W'.ownsRow n1 e size v n xs := fun {e size n v xs} ho => ho.kept hg (by
    cases hv : v.ownBlock with
    | none => exact .inl rfl
    | some q => exact .inr (by simp))
  refine ⟨(l.block _ h1.lt).trans h1, (l.block _ h2.lt).trans h2, own h3, fun j v g' a b => (h4 j v g' a b).keep hk fun _ x => .inl x, own h5, h6.keep hk fun _ x => .inl x, fun b hb => ?_, h8.trans (l.mono h8.size), Nat.le_trans h9 l.size, h10, h11⟩
  rcases hb with hb | hb
  · exact ⟨(h7 b hb).1, Nat.lt_of_lt_of_le (h7 b hb).2.1 l.size, (h7 b hb).2.2⟩
  · obtain ⟨q1, q2⟩ := hn b hb
    have ne : ∀ {e size n : Nat} {v : Value} {xs : List Value}, W.ownsRow n1 e size v n xs → some b ≠ v.ownBlock := fun {e size n v xs} ho e' => by
      have := (ho.lt b e'.symm).2
      omega
    exact ⟨Nat.le_trans h9 q1, q2, ne h3, ne h5⟩
theorem GI.below {w0 W W' : World} {n1 bG bg m : Nat} {Fs : Nat → Nat → Nat} {gs : List (List Nat)} {g : List Nat} (h : GI w0 n1 bG bg m Fs gs g W) (l : Below W.heap.size W W') : GI w0 n1 bG bg m Fs gs g W' := by
  obtain ⟨X, vG, vg, vs, ls, h1, h2, h3, h4, h5, h6, h7, h8, h9, h10, h11⟩ := h
  have hk : KeepX X W W' := KeepX.heap fun b hb => l.block b (h7 b hb).2.1
  have hg := grown_below (r := none) l
  have own : ∀ {e size n : Nat} {v : Value} {xs : List Value}, W.ownsRow n1 e size v n xs → W'.ownsRow n1 e size v n xs := fun {e size n v xs} ho => ho.kept hg (by
    cases hv : v.ownBlock with
    | none => exact .inl rfl
    | some q => exact .inr (by simp))
  exact ⟨X, vG, vg, vs, ls, (l.block _ h1.lt).trans h1, (l.block _ h2.lt).trans h2, own h3, fun j v g' a b => (h4 j v g' a b).keep hk fun _ x => x, own h5, h6.keep hk fun _ x => x, fun b hb => ⟨(h7 b hb).1, Nat.lt_of_lt_of_le (h7 b hb).2.1 l.size, (h7 b hb).2.2⟩, h8.trans (l.mono h8.size), Nat.le_trans h9 l.size, h10, h11⟩
theorem own_other {W W' : World} {row : Option Nat} {base e size n : Nat} {v : Value} {xs : List Value} (h : W.ownsRow base e size v n xs) (hg : W.grownBy W' row) (hr : ∀ r, row = some r → ∃ o : Obj, W.heap[r]? = some o ∧ o.isCells = false) : W'.ownsRow base e size v n xs := by
  refine h.kept hg ?_
  rcases h.2 with ⟨rfl, _⟩ | ⟨g, cap, cur, rfl, _, hgb, _⟩
  · exact .inl rfl
  · refine .inr fun e' => ?_
    obtain ⟨o, ho, hc⟩ := hr g (by simpa [Value.ownBlock] using e'.symm)
    rw [hgb] at ho; cases ho; cases hc
theorem boxed_other {W W' : World} {row : Option Nat} {B : Nat} {t : TypeId} {v : Value} (h : Boxed W B t v) (hg : W.grownBy W' row) (hr : ∀ r, row = some r → ∃ o : Obj, W.heap[r]? = some o ∧ o.isCells = false) : Boxed W' B t v :=
  h.kept hg fun e' => by
    obtain ⟨o, ho, hc⟩ := hr B e'.symm
    rw [show W.heap[B]? = _ from h] at ho; cases ho; cases hc
theorem GI.own {n1 bG bg m : Nat} {Fs : Nat → Nat → Nat} {w0 : World} {B : Nat} (hB : w0.heap.size ≤ B) : OwnFrom B (fun (s : List (List Nat) × List Nat) W => GI w0 n1 bG bg m Fs s.1 s.2 W) := by
  rintro s W W' row ⟨X, vG, vg, vs, ls, h1, h2, h3, h4, h5, h6, h7, h8, h9, h10, h11⟩ hg hr0
  have hr : ∀ r, row = some r → ∃ o : Obj, W.heap[r]? = some o ∧ o.isCells = false := fun r e => (hr0 r e).2
  have hk : KeepX X W W' := fun b o v hb e => cell_kept e hg hr
  refine ⟨X, vG, vg, vs, ls, boxed_other h1 hg hr, boxed_other h2 hg hr, own_other h3 hg hr, fun j v g' a b => (h4 j v g' a b).keep hk fun _ x => x, own_other h5 hg hr, h6.keep hk fun _ x => x, fun b hb => ⟨(h7 b hb).1, Nat.lt_of_lt_of_le (h7 b hb).2.1 hg.size, (h7 b hb).2.2⟩, h8.grown hg h8.size (fun j hj => Nat.le_trans hB (hr0 j hj).1), Nat.le_trans h9 hg.size, h10, h11⟩
/-- A change put behind the group: behind the append and the store into its box. -/
theorem GI.push {w0 W w9 : World} {n1 bG bg m i : Nat} {Fs : Nat → Nat → Nat} {gs : List (List Nat)} {g : List Nat} {X : Nat → Prop} {vG vg v2 : Value} {vs : List Value} {ls : List (Int × Value)} {pg : Int} {ld : Value}
    (h1 : Boxed W bG 32 vG) (h2 : Boxed W bg 38 vg) (h3 : W.ownsRow n1 38 1 vG gs.length vs) (h4 : ∀ (j : Nat) (v : Value) (g' : List Nat), vs[j]? = some v → gs[j]? = some g' → GrpX X W m Fs g' v)
    (h5 : W.ownsRow n1 44 2 vg g.length (chCells ls)) (h6 : RowX X W m Fs g ls) (h7 : ∀ b, X b → n1 ≤ b ∧ b < W.heap.size ∧ some b ≠ vG.ownBlock ∧ some b ≠ vg.ownBlock) (h8 : Below w0.heap.size w0 W) (h9 : n1 ≤ W.heap.size) (h11 : gs = [] → vG = .slice none 0 0)
    (hw0 : w0.heap.size ≤ n1) (hb0 : w0.heap.size ≤ bg) (hne : bG ≠ bg) (hbg : bg < n1) (hx : ChX X W m (Fs i) (pg, ld)) (hown : w9.ownsRow n1 44 2 v2 (g.length + 1) (chCells ls ++ [.int .i64 pg, ld])) (hgr : W.grownBy w9 vg.ownBlock) (hat : v2.ownBlock = vg.ownBlock ∨ ∃ q, v2.ownBlock = some q ∧ W.heap.size ≤ q) :
    GP w0 n1 bG bg m Fs gs (g ++ [i]) X vG v2 vs (ls ++ [(pg, ld)]) (w9.setCell ⟨bg, 0, none⟩ v2) := by
  have hlt := fun b hb => (h7 b hb).2.1
  have e1 : some bG ≠ vg.ownBlock := h1.not_row (by decide) h5
  have e2 : some bg ≠ vg.ownBlock := h2.not_row (by decide) h5
  have hset : ∀ q, q ≠ bg → (w9.setCell ⟨bg, 0, none⟩ v2).heap[q]? = w9.heap[q]? := fun q hq => Below.heap_setCell _ _ _ _ hq
  have hk : KeepX X W (w9.setCell ⟨bg, 0, none⟩ v2) := KeepX.heap fun b hb => by
    have q := h7 b hb
    exact (hset b (by omega)).trans (hgr.block b q.2.1 q.2.2.2)
  have hsz : (w9.setCell ⟨bg, 0, none⟩ v2).heap.size = w9.heap.size := by simp [World.setCell]
  have hvG : vG.ownBlock = none ∨ vG.ownBlock ≠ vg.ownBlock := by
    rcases h3.2 with ⟨rfl, _⟩ | ⟨q, cap, cur, rfl, _, hgb, _⟩
    · exact .inl rfl
    · refine .inr fun e' => ?_
      rcases h5.2 with ⟨rfl, _⟩ | ⟨q2, cap2, cur2, rfl, _, hgb2, _⟩
      · simp [Value.ownBlock] at e'
      · obtain rfl : q = q2 := by simpa [Value.ownBlock] using e'
        rw [hgb] at hgb2
        injection hgb2 with hgb2
        injection hgb2 with _ ht _
        exact absurd ht (by decide)
  have b9 : Boxed w9 bg 38 vg := h2.kept hgr e2
  refine ⟨(hset bG hne).trans (h1.kept hgr e1), b9.set v2, ?_, fun j v g' a b => (h4 j v g' a b).keep hk fun _ x => x, ?_, (h6.snoc hx).keep hk fun _ x => x, fun b hb => ?_, ?_, by rw [hsz]; exact Nat.le_trans h9 hgr.size, fun e => by simp at e, h11⟩
  · refine (h3.kept hgr hvG).kept (grownBy_setCell' w9 bg v2) ?_
    cases hv : vG.ownBlock with
    | none => exact .inl rfl
    | some q => exact .inr (fun e => by injection e with e; have := (h3.lt q hv).1; omega)
  · rw [chCells_snoc, show (g ++ [i]).length = g.length + 1 by simp]
    refine hown.kept (grownBy_setCell' w9 bg v2) ?_
    cases hv : v2.ownBlock with
    | none => exact .inl rfl
    | some q => exact .inr (fun e => by injection e with e; have := (hown.lt q hv).1; omega)
  · obtain ⟨q1, q2, q3, q4⟩ := h7 b hb
    refine ⟨q1, by rw [hsz]; exact Nat.lt_of_lt_of_le q2 hgr.size, q3, ?_⟩
    rcases hat with ha | ⟨q, ha, hq⟩
    · rw [ha]; exact q4
    · rw [ha]; intro e; injection e with e; omega
  · exact (h8.grown hgr h8.size (fun j hj => by have := (h5.lt j hj).1; omega)).setCell (p := ⟨bg, 0, none⟩) hb0 _
/-- The group is whole: behind the append to the groups and the stores into both boxes. -/
theorem GI.close {w0 W w9 : World} {n1 bG bg m : Nat} {Fs : Nat → Nat → Nat} {gs : List (List Nat)} {g : List Nat} {X : Nat → Prop} {vG v2 : Value} {b0 c0 : Nat} {vs : List Value} {ls : List (Int × Value)}
    (h1 : Boxed W bG 32 vG) (h2 : Boxed W bg 38 (.slice (some ⟨b0, 0, none⟩) g.length c0)) (h3 : W.ownsRow n1 38 1 vG gs.length vs) (h4 : ∀ (j : Nat) (v : Value) (g' : List Nat), vs[j]? = some v → gs[j]? = some g' → GrpX X W m Fs g' v)
    (h5 : W.ownsRow n1 44 2 (.slice (some ⟨b0, 0, none⟩) g.length c0) g.length (chCells ls)) (h6 : RowX X W m Fs g ls) (h7 : ∀ b, X b → n1 ≤ b ∧ b < W.heap.size ∧ some b ≠ vG.ownBlock ∧ some b ≠ (Value.slice (some ⟨b0, 0, none⟩) g.length c0).ownBlock) (h8 : Below w0.heap.size w0 W) (h9 : n1 ≤ W.heap.size)
    (hw0 : w0.heap.size ≤ n1) (hb0 : w0.heap.size ≤ bg) (hbG0 : w0.heap.size ≤ bG) (hne : bG ≠ bg) (hbg : bg < n1) (hbG : bG < n1) (hown : w9.ownsRow n1 38 1 v2 (gs.length + 1) (vs ++ [.slice (some ⟨b0, 0, none⟩) g.length c0])) (hgr : W.grownBy w9 vG.ownBlock) (hat : v2.ownBlock = vG.ownBlock ∨ ∃ q, v2.ownBlock = some q ∧ W.heap.size ≤ q) :
    GP w0 n1 bG bg m Fs (gs ++ [g]) [] (fun b => X b ∨ b = b0) v2 (.slice none 0 0) (vs ++ [.slice (some ⟨b0, 0, none⟩) g.length c0]) [] ((w9.setCell ⟨bG, 0, none⟩ v2).setCell ⟨bg, 0, none⟩ (.slice none 0 0)) := by
  have e1 : some bG ≠ vG.ownBlock := h1.not_row (by decide) h3
  have e2 : some bg ≠ vG.ownBlock := by
    rcases h3.2 with ⟨rfl, _⟩ | ⟨q, cap, cur, rfl, hq, hgb, _⟩
    · simp [Value.ownBlock]
    · intro e'
      obtain rfl : bg = q := by simpa [Value.ownBlock] using e'
      omega
  have hb0o : n1 ≤ b0 ∧ b0 < W.heap.size := h5.lt b0 rfl
  have e3 : some b0 ≠ vG.ownBlock := by
    rcases h3.2 with ⟨rfl, _⟩ | ⟨q, cap, cur, rfl, hq, hgb, _⟩
    · simp [Value.ownBlock]
    · intro e'
      obtain rfl : b0 = q := by simpa [Value.ownBlock] using e'
      rcases h5.2 with ⟨e, _⟩ | ⟨q2, cap2, cur2, e, _, hgb2, _⟩
      · cases e
      · injection e with e _ _
        injection e with e
        injection e with e _ _
        subst e
        rw [hgb] at hgb2
        injection hgb2 with hgb2
        injection hgb2 with _ ht _
        exact absurd ht (by decide)
  have hset : ∀ q, q ≠ bG → q ≠ bg → ((w9.setCell ⟨bG, 0, none⟩ v2).setCell ⟨bg, 0, none⟩ (.slice none 0 0)).heap[q]? = w9.heap[q]? := fun q h1 h2 => (Below.heap_setCell _ _ _ _ h2).trans (Below.heap_setCell _ _ _ _ h1)
  have hk2 : ∀ b, (X b ∨ b = b0) → ((w9.setCell ⟨bG, 0, none⟩ v2).setCell ⟨bg, 0, none⟩ (.slice none 0 0)).heap[b]? = W.heap[b]? := fun b hb => by
    have q : n1 ≤ b ∧ b < W.heap.size ∧ some b ≠ vG.ownBlock := by
      rcases hb with hb | rfl
      · exact ⟨(h7 b hb).1, (h7 b hb).2.1, (h7 b hb).2.2.1⟩
      · exact ⟨hb0o.1, hb0o.2, e3⟩
    exact (hset b (by omega) (by omega)).trans (hgr.block b q.2.1 q.2.2)
  have hk : KeepX X W ((w9.setCell ⟨bG, 0, none⟩ v2).setCell ⟨bg, 0, none⟩ (.slice none 0 0)) := KeepX.heap fun b hb => hk2 b (.inl hb)
  have hsz : ((w9.setCell ⟨bG, 0, none⟩ v2).setCell ⟨bg, 0, none⟩ (.slice none 0 0)).heap.size = w9.heap.size := by simp [World.setCell]
  have bG9 : Boxed (w9.setCell ⟨bG, 0, none⟩ v2) bG 32 v2 := (h1.kept hgr e1).set v2
  have bg9 : Boxed (w9.setCell ⟨bG, 0, none⟩ v2) bg 38 (.slice (some ⟨b0, 0, none⟩) g.length c0) := (Below.heap_setCell _ _ _ _ (Ne.symm hne)).trans (h2.kept hgr e2)
  have hcell : ∀ j u, (chCells ls)[j]? = some u → W.cell? ⟨b0, j, none⟩ = some u := fun j u hu => by
    obtain ⟨hj, _⟩ := List.getElem?_eq_some_iff.1 hu
    have hl := h5.1
    have := World.ownsRow.cellAt (w := W) (base := n1) (e := 44) (size := 2) h5 j (by omega)
    rw [this]; exact hu
  have hcap : g.length ≤ c0 ∧ c0 ≤ 9223372036854775807 := by
    rcases h5.2 with ⟨e, _⟩ | ⟨q2, cap2, cur2, e, _, _, a1, a2, _⟩
    · cases e
    · injection e with _ _ e
      subst e
      exact ⟨a1, by unfold maxLen at a2; exact a2⟩
  refine ⟨(Below.heap_setCell _ _ _ _ hne).trans bG9, bg9.set _, ?_, fun j v g' a b => ?_, World.ownsRow_nil _ _ _ _, ⟨rfl, fun j i x h1 _ => by simp at h1⟩, fun b hb => ?_, ?_, by rw [hsz]; exact Nat.le_trans h9 hgr.size, fun _ => rfl, fun e => by simp at e⟩
  · rw [show (gs ++ [g]).length = gs.length + 1 by simp]
    have q : ∀ {B : Nat}, B < n1 → v2.ownBlock = none ∨ v2.ownBlock ≠ some B := fun {B} hB => by
      cases hv : v2.ownBlock with
      | none => exact .inl rfl
      | some q => exact .inr (fun e => by injection e with e; have := (hown.lt q hv).1; omega)
    exact (hown.kept (grownBy_setCell' w9 bG v2) (q hbG)).kept (grownBy_setCell' _ bg _) (q hbg)
  · have hl := h3.1
    rw [Nat.mul_one] at hl
    by_cases hj : j < gs.length
    · rw [List.getElem?_append_left (by omega)] at a
      rw [List.getElem?_append_left hj] at b
      exact (h4 j v g' a b).keep hk fun _ x => .inl x
    · rw [List.getElem?_append_right (by omega)] at a
      rw [List.getElem?_append_right (by omega)] at b
      rw [hl] at a
      match hq : j - gs.length with
      | 0 =>
        rw [hq] at a b
        simp at a b
        subst a b
        exact ⟨b0, c0, ls, rfl, .inr rfl, hcap.1, hcap.2, h6.keep hk fun _ x => .inl x, fun j u hu => (World.cell?_of_block (w := W) (a := ⟨b0, j, none⟩) (hk2 b0 (.inr rfl))).trans (hcell j u hu)⟩
      | q + 1 => rw [hq] at a; simp at a
  · rw [hsz]
    have hv2 : ∀ b, b < W.heap.size → some b ≠ vG.ownBlock → some b ≠ v2.ownBlock := fun b hb1 hb2 => by
      rcases hat with ha | ⟨q, ha, hq⟩
      · rw [ha]; exact hb2
      · rw [ha]; intro e; injection e with e; omega
    rcases hb with hb | rfl
    · obtain ⟨q1, q2, q3, q4⟩ := h7 b hb
      exact ⟨q1, Nat.lt_of_lt_of_le q2 hgr.size, hv2 b q2 q3, by simp [Value.ownBlock]⟩
    · exact ⟨hb0o.1, Nat.lt_of_lt_of_le hb0o.2 hgr.size, hv2 b hb0o.2 e3, by simp [Value.ownBlock]⟩
  · exact ((h8.grown hgr h8.size (fun j hj => by have := (h3.lt j hj).1; omega)).setCell (p := ⟨bG, 0, none⟩) hbG0 _).setCell (p := ⟨bg, 0, none⟩) hb0 _
end Go.Proofs.Ytmikemijdglgaaa
/- log.Read, of a disk that is up. -/
namespace Go.Proofs.Ytmikemijdglgaaa
open Go.RowKit
set_option linter.unusedVariables false
set_option linter.unusedSimpArgs false

open Go.Shelf
attribute [local go_sem] Oper.semAt_some
def gsOf (last : Nat → Bool) (ns : List Nat) : List (List Nat) × List Nat := ns.foldl (gStep last) ([], [])
theorem gsOf_snoc (last : Nat → Bool) (ns : List Nat) (i : Nat) : gsOf last (ns ++ [i]) = gStep last (gsOf last ns) i := by unfold gsOf; rw [List.foldl_append]; rfl
theorem gsOf_range (last : Nat → Bool) (k : Nat) : gsOf last (List.range k) = gTo last k := rfl
theorem gsFold_len (last : Nat → Bool) (ns : List Nat) : ∀ st : List (List Nat) × List Nat, (ns.foldl (gStep last) st).1.length ≤ st.1.length + ns.length ∧ (ns.foldl (gStep last) st).2.length ≤ st.2.length + ns.length := by
  induction ns with
  | nil => exact fun st => ⟨Nat.le_refl _, Nat.le_refl _⟩
  | cons i ns ih =>
    intro st
    rw [List.foldl_cons, List.length_cons]
    have h := ih (gStep last st i)
    have q : (gStep last st i).1.length ≤ st.1.length + 1 ∧ (gStep last st i).2.length ≤ st.2.length + 1 := by
      unfold gStep
      split
      · simp
      · simp
    omega
theorem gsOf_len (last : Nat → Bool) (ns : List Nat) : (gsOf last ns).1.length ≤ ns.length ∧ (gsOf last ns).2.length ≤ ns.length := by
  have := gsFold_len last ns ([], [])
  simp only [List.length_nil, Nat.zero_add] at this
  exact this
/-- Is a slot the last of its group? -/
def lastB (S : DS) (first : Nat) (i : Nat) : Bool := decide (flagN (S.now (first + i)) = 1)
abbrev chAt (S : DS) (first epoch i : Nat) : Prop := isCh (S.now (first + i)) (S.size - 20) i epoch
/-- What Read hands back, of a disk that is up, where a log may stand. -/
def ReadP (S : DS) (first count epoch : Nat) (w : World) (e : Ending) (w' : World) : Prop :=
  (∃ k v vs X, k ≤ count ∧ (∀ i, i < k → chAt S first epoch i) ∧ (k < count → ¬ chAt S first epoch k) ∧ e = .returned (.tuple #[v, .int .i64 0]) ∧
    w'.ownsRow w.heap.size 38 1 v (gTo (lastB S first) k).1.length vs ∧
    (∀ (j : Nat) (u : Value) (g : List Nat), vs[j]? = some u → (gTo (lastB S first) k).1[j]? = some g → GrpX X w' (S.size - 20) (fun i => S.now (first + i)) g u) ∧
    (∀ b, X b → w.heap.size ≤ b ∧ b < w'.heap.size ∧ some b ≠ v.ownBlock)) ∧ Below w.heap.size w w'
/-- A disk's slot, as it is handed out, is kept by new memory. -/
theorem slY_own {S : DS} {first count n₀ B : Nat} : OwnFrom B (fun (x : Nat × Nat) W => SlY S first count n₀ x W) := fun x A C row hs hg hr =>
  ⟨hs.1.other hg (fun e => by
    obtain ⟨_, o, ho, hc⟩ := hr _ e.symm
    obtain ⟨c, hb, _⟩ := hs.1.1
    rw [hb] at ho; cases ho; cases hc), hs.2⟩
/-- A block of cells is kept by new memory. -/
theorem fixed_own {β : Type} {B q : Nat} {c : Array Value} {t : TypeId} : OwnFrom B (fun (_ : β) W => W.heap[q]? = some (.cells c t (0, 0))) := fun x A C row hs hg hr =>
  (hg.block q (Array.getElem?_eq_some_iff.1 hs).1 (fun e => by
    obtain ⟨_, o, ho, hc⟩ := hr q e.symm
    rw [hs] at ho; cases ho; cases hc)).trans hs
theorem infoCh : (Try.prog.info? 44).map (fun i => (i.zero, i.size, i.bytes)) = some (some (.agg #[.int .i64 0, .slice none 0 0]), 2, 32) := by kernel_rfl
theorem infoGr : (Try.prog.info? 38).map (fun i => (i.zero, i.size, i.bytes)) = some (some (.slice none 0 0), 1, 24) := by kernel_rfl
theorem infoPartsR {P : Program} {T : TypeId} {z : Value} {s b : Nat} (h : (P.info? T).map (fun i => (i.zero, i.size, i.bytes)) = some (some z, s, b)) : ∃ i, P.info? T = some i ∧ i.zero = some z ∧ i.size = s ∧ i.bytes = b := by
  cases hp : P.info? T with
  | none => rw [hp] at h; cases h
  | some i =>
    rw [hp] at h
    simp only [Option.map_some, Option.some.injEq, Prod.mk.injEq] at h
    exact ⟨i, rfl, h.1, h.2.1, h.2.2⟩
theorem cells_newR2 (W : World) (a b : Value) (T : TypeId) : ∀ (j : Nat) (u : Value), [a, b][j]? = some u → (W.alloc (.cells #[a, b] T)).cell? ((⟨W.heap.size, 0, none⟩ : Addr).add j) = some u := by
  intro j u h
  rw [Addr.add_mid, Nat.zero_add]
  rcases j with _ | _ | j
  · simp at h ⊢; exact h
  · simp at h ⊢; exact h
  · simp at h
theorem cells_newR1 (W : World) (a : Value) (T : TypeId) : ∀ (j : Nat) (u : Value), [a][j]? = some u → (W.alloc (.cells #[a] T)).cell? ((⟨W.heap.size, 0, none⟩ : Addr).add j) = some u := by
  intro j u h
  rw [Addr.add_mid, Nat.zero_add]
  rcases j with _ | j
  · simp at h ⊢; exact h
  · simp at h
/-- What a round of Read keeps. -/
structure Rb (n0 n1 bG bg : Nat) (W W' : World) : Prop where
  ko : KeepsOthers W W'
  bl : Below n0 W W'
  fx : ∀ q, q < n1 → q ≠ bG → q ≠ bg → W'.heap[q]? = W.heap[q]?
theorem Rb.trans {n0 n1 bG bg : Nat} {A B C : World} (h : Rb n0 n1 bG bg A B) (k : Rb n0 n1 bG bg B C) : Rb n0 n1 bG bg A C := ⟨h.ko.trans k.ko, h.bl.trans k.bl, fun q a b c => (k.fx q a b c).trans (h.fx q a b c)⟩
theorem Rb.below {n0 n1 bG bg : Nat} {W W' : World} (h : Below W.heap.size W W') (h0 : n0 ≤ n1) (h1 : n1 ≤ W.heap.size) : Rb n0 n1 bG bg W W' := ⟨KeepsOthers.of_grownBy (grown_below (r := none) h) (by simp), h.mono (Nat.le_trans h0 h1), fun q a _ _ => h.block q (by omega)⟩
theorem Rb.own {n0 n1 bG bg e size k : Nat} {v : Value} {xs : List Value} {W W' : World} (hg : W.grownBy W' v.ownBlock) (ho : W.ownsRow n1 e size v k xs) (h0 : n0 ≤ n1) (h1 : n1 ≤ W.heap.size) : Rb n0 n1 bG bg W W' :=
  ⟨KeepsOthers.of_grownBy hg fun j o ej hj => by
    rcases ho.2 with ⟨rfl, _⟩ | ⟨g, cap, cur, rfl, _, hgb, _⟩
    · simp [Value.ownBlock] at ej
    · simp [Value.ownBlock] at ej
      subst ej
      rw [hgb] at hj
      cases hj
      rfl,
    (Below.refl n0 W).grown hg (Nat.le_trans h0 h1) (fun j hj => by have := (ho.lt j hj).1; omega), fun q a _ _ => hg.block q (by omega) (fun e' => by have := (ho.lt q e'.symm).1; omega)⟩
theorem Rb.set {n0 n1 bG bg B : Nat} {W : World} (hB : B = bG ∨ B = bg) (h0 : n0 ≤ B) (v : Value) : Rb n0 n1 bG bg W (W.setCell ⟨B, 0, none⟩ v) :=
  ⟨KeepsOthers.setCell _ _ _, (Below.refl n0 W).setCell (p := ⟨B, 0, none⟩) h0 v, fun q _ b c => Below.heap_setCell _ _ _ _ (by show q ≠ B; omega)⟩
theorem GI.close' {w0 W w9 : World} {n1 bG bg m k : Nat} {Fs : Nat → Nat → Nat} {gs : List (List Nat)} {g : List Nat} {X : Nat → Prop} {vG v2 : Value} {b0 c0 : Nat} {vs : List Value} {ls : List (Int × Value)} (hk : k = g.length)
    (h : GP w0 n1 bG bg m Fs gs g X vG (.slice (some ⟨b0, 0, none⟩) k c0) vs ls W) (hw0 : w0.heap.size ≤ n1) (hb0 : w0.heap.size ≤ bg) (hbG0 : w0.heap.size ≤ bG) (hne : bG ≠ bg) (hbg : bg < n1) (hbG : bG < n1) (hown : w9.ownsRow n1 38 1 v2 (gs.length + 1) (vs ++ [.slice (some ⟨b0, 0, none⟩) k c0])) (hgr : W.grownBy w9 vG.ownBlock) (hat : v2.ownBlock = vG.ownBlock ∨ ∃ q, v2.ownBlock = some q ∧ W.heap.size ≤ q) :
    GP w0 n1 bG bg m Fs (gs ++ [g]) [] (fun b => X b ∨ b = b0) v2 (.slice none 0 0) (vs ++ [.slice (some ⟨b0, 0, none⟩) g.length c0]) [] ((w9.setCell ⟨bG, 0, none⟩ v2).setCell ⟨bg, 0, none⟩ (.slice none 0 0)) := by
  subst hk
  obtain ⟨h1, h2, h3, h4, h5, h6, h7, h8, h9, h10, h11⟩ := h
  exact GI.close h1 h2 h3 h4 h5 h6 h7 h8 h9 hw0 hb0 hbG0 hne hbg hbG hown hgr hat
/-- A slot that holds no change of the epoch. -/
theorem change_no (i b o n m c epoch : Nat) (F : Nat → Nat) (w : World) (hep : 1 ≤ epoch) (hi : i ≤ 1048576) (h1 : m + 20 ≤ n) (h2 : n ≤ m + 20) (h44 : 44 ≤ m) (hm : m ≤ 4076) (hc : n ≤ c) (hc2 : c ≤ 9223372036854775807) (hb : Bytes w (some ⟨b, o, none⟩) n F) (hno : ¬ isCh F m i epoch) :
    Calls Try.prog 37 #[.agg #[.int .i64 i, .slice (some ⟨b, o, none⟩) n c], .int .i64 epoch] w fun e w' => e = .returned (.tuple #[.agg #[.int .i64 0, .slice none 0 0], .bool false, .bool false]) ∧ Below w.heap.size w w' :=
  (change_any i b o n m c epoch F w hep hi h1 h2 h44 hm hc hc2 hb).mono fun e w' h => by
    obtain ⟨⟨_, h1⟩ | ⟨h0, _⟩, h2⟩ := h
    · exact ⟨h1, h2⟩
    · exact absurd h0 hno
theorem change_yes (i b o n m c epoch : Nat) (F : Nat → Nat) (w : World) (hep : 1 ≤ epoch) (hi : i ≤ 1048576) (h1 : m + 20 ≤ n) (h2 : n ≤ m + 20) (h44 : 44 ≤ m) (hm : m ≤ 4076) (hc : n ≤ c) (hc2 : c ≤ 9223372036854775807) (hb : Bytes w (some ⟨b, o, none⟩) n F) (hyes : isCh F m i epoch) (fl : Bool) (hfl : decide (flagN F = 1) = fl) :
    Calls Try.prog 37 #[.agg #[.int .i64 i, .slice (some ⟨b, o, none⟩) n c], .int .i64 epoch] w fun e w' =>
      (∃ b' o' d, e = .returned (.tuple #[.agg #[.int .i64 (pageI F), .slice (some ⟨b', o', none⟩) (m - 25) d], .bool fl, .bool true]) ∧ LdX (fun q => q = b') w' m F (.slice (some ⟨b', o', none⟩) (m - 25) d) ∧ w.heap.size ≤ b' ∧ b' < w'.heap.size) ∧ Below w.heap.size w w' :=
  (change_any i b o n m c epoch F w hep hi h1 h2 h44 hm hc hc2 hb).mono fun e w' h => by
    obtain ⟨⟨h0, _⟩ | ⟨_, B, d, he, hB, hd1, hd2, _, hnew⟩, h2⟩ := h
    · exact absurd hyes h0
    · obtain ⟨b', o', rfl, hcell⟩ := hB.2.2 (by omega)
      have hlt : b' < w'.heap.size := by
        have := hcell 0 (by omega)
        obtain ⟨ob, hob, _⟩ := cells_of_cell this
        exact (Array.getElem?_eq_some_iff.1 hob).1
      rw [hfl] at he
      exact ⟨⟨b', o', d, he, ⟨b', o', d, rfl, rfl, hd1, hd2, hB⟩, hnew b' o' rfl, hlt⟩, h2⟩
/-- What stands while Read runs: the box of the epoch, the results' cells, the iterator's box. -/
def RdFix (n0 Bs : Nat) (M : DM) (first count epoch : Nat) (W : World) : Prop :=
  Boxed W n0 3 (.int .i64 (epoch : Nat)) ∧ Boxed W (n0 + 1) 32 (.slice none 0 0) ∧ Boxed W (n0 + 1 + 1) 29 (.int .i64 0) ∧ W.heap[Bs]? = some (.cells #[.pointer (some ⟨M.p, 0, none⟩), .int .i64 (first : Nat), .int .i64 (count : Nat)] 80 (0, 0))
theorem RdFix.own {β : Type} {B n0 Bs : Nat} {M : DM} {first count epoch : Nat} : OwnFrom B (fun (_ : β) W => RdFix n0 Bs M first count epoch W) := fun x A C row hs hg hr =>
  ⟨fixed_own (B := B) x A C row hs.1 hg hr, fixed_own (B := B) x A C row hs.2.1 hg hr, fixed_own (B := B) x A C row hs.2.2.1 hg hr, fixed_own (B := B) x A C row hs.2.2.2 hg hr⟩
theorem RdFix.kept {n0 n1 bG bg Bs : Nat} {M : DM} {first count epoch : Nat} {W W' : World} (h : RdFix n0 Bs M first count epoch W) (k : Rb n0 n1 bG bg W W') (h1 : n0 + 2 < n1) (h2 : Bs < n1) (h3 : n0 + 2 < bG ∧ n0 + 2 < bg) (h4 : Bs ≠ bG ∧ Bs ≠ bg) : RdFix n0 Bs M first count epoch W' :=
  ⟨(k.fx _ (by omega) (by omega) (by omega)).trans h.1, (k.fx _ (by omega) (by omega) (by omega)).trans h.2.1, (k.fx _ (by omega) (by omega) (by omega)).trans h.2.2.1, (k.fx _ h2 h4.1 h4.2).trans h.2.2.2⟩
theorem own_lower {W : World} {b0 b1 e size n : Nat} {v : Value} {xs : List Value} (h : W.ownsRow b1 e size v n xs) (hb : b0 ≤ b1) : W.ownsRow b0 e size v n xs := by
  refine ⟨h.1, ?_⟩
  rcases h.2 with h | ⟨g, cap, cur, h1, h2, h3⟩
  · exact .inl h
  · exact .inr ⟨g, cap, cur, h1, Nat.le_trans hb h2, h3⟩
theorem read_fin {w W : World} {n0 n1 bG bg m D k first count epoch : Nat} {S : DS} {gs : List (List Nat)} {g : List Nat} {X : Nat → Prop} {vG vg : Value} {vs : List Value} {ls : List (Int × Value)} (h : GP w n1 bG bg m (fun i => S.now (first + i)) gs g X vG vg vs ls W) (hw : n0 = w.heap.size) (h01 : n0 + 2 < n1) (o' : Obj)
    (hD : W.heap[D]? = some (.deferred (some []))) (hm : m = S.size - 20) (hk : k ≤ count) (hch : ∀ i, i < k → chAt S first epoch i) (hno : k < count → ¬ chAt S first epoch k) (hgs : gs = (gTo (lastB S first) k).1) (e1 : ∃ c, W.heap[n0 + 1]? = some (.cells c 32 (0, 0))) (e2 : ∃ c, W.heap[n0 + 1 + 1]? = some (.cells c 29 (0, 0))) (hDw : n1 ≤ D) :
    ReadP S first count epoch w (.returned (.tuple #[vG, .int .i64 0])) (((W.setCell ⟨n0 + 1, 0, none⟩ vG).setCell ⟨n0 + 1 + 1, 0, none⟩ (.int .i64 0)).putObj D o') := by
  obtain ⟨h1, h2, h3, h4, h5, h6, h7, h8, h9, h10, h11⟩ := h
  have hDl : D < W.heap.size := (Array.getElem?_eq_some_iff.1 hD).1
  have hDk : ((W.setCell ⟨n0 + 1, 0, none⟩ vG).setCell ⟨n0 + 1 + 1, 0, none⟩ (.int .i64 0)).heap[D]? = some (.deferred (some [])) := ((Below.heap_setCell _ _ _ _ (by show D ≠ n0 + 1 + 1; omega)).trans (Below.heap_setCell _ _ _ _ (by show D ≠ n0 + 1; omega))).trans hD
  have q : ∀ {B : Nat}, B < n1 → vG.ownBlock = none ∨ vG.ownBlock ≠ some B := fun {B} hB => by
    cases hv : vG.ownBlock with
    | none => exact .inl rfl
    | some q => exact .inr (fun e => by injection e with e; have := (h3.lt q hv).1; omega)
  have hown := ownsRow_putObj ((h3.kept (grownBy_setCell' W (n0 + 1) vG) (q (by omega))).kept (grownBy_setCell' _ (n0 + 1 + 1) (.int .i64 0)) (q (by omega))) o' hDk rfl
  have hsz : (((W.setCell ⟨n0 + 1, 0, none⟩ vG).setCell ⟨n0 + 1 + 1, 0, none⟩ (.int .i64 0)).putObj D o').heap.size = W.heap.size := by simp [World.setCell, World.putObj]
  have hkp : KeepX X W (((W.setCell ⟨n0 + 1, 0, none⟩ vG).setCell ⟨n0 + 1 + 1, 0, none⟩ (.int .i64 0)).putObj D o') := fun b o v hb hv => by
    have hb1 := (h7 b hb).1
    refine cell_kept ?_ (grownBy_putObj' _ D o') (fun r e => by cases e; exact ⟨_, hDk, rfl⟩)
    refine (World.cell?_of_block (w := W) (a := ⟨b, o, none⟩) ?_).trans hv
    exact (Below.heap_setCell _ _ _ _ (by show b ≠ n0 + 1 + 1; omega)).trans (Below.heap_setCell _ _ _ _ (by show b ≠ n0 + 1; omega))
  refine ⟨⟨k, vG, vs, X, hk, hch, hno, rfl, ?_, fun j u g' a b => ?_, fun b hb => ⟨?_, ?_, (h7 b hb).2.2.1⟩⟩, ?_⟩
  · rw [← hgs]; exact own_lower hown (by omega)
  · rw [← hgs] at b
    rw [← hm]
    exact (h4 j u g' a b).keep hkp fun _ x => x
  · have := (h7 b hb).1; omega
  · rw [hsz]; exact (h7 b hb).2.1
  · exact ((h8.setCell (p := ⟨n0 + 1, 0, none⟩) (by show w.heap.size ≤ n0 + 1; omega) _).setCell (p := ⟨n0 + 1 + 1, 0, none⟩) (by show w.heap.size ≤ n0 + 1 + 1; omega) _).trans (belowK_b (w := w) (Nat.le_refl _) _ D _ _ (by omega) hDk rfl rfl)
/-- How a round of Read is left. -/
def RdBP (w : World) (M : DM) (S : DS) (first count epoch n0 q0 m : Nat) (xs : List (Nat × Nat)) (W : World) (e : Exit) (W' : World) : Prop :=
  Rb n0 (q0 + 4) (q0 + 1) (q0 + 1 + 1) W W' ∧ W.heap[q0 + 1 + 1 + 1]? = some (.cells #[.pointer (some ⟨M.p, 0, none⟩), .int .i64 (first : Nat), .int .i64 (count : Nat)] 80 (0, 0)) ∧ ((e = .normal ∧ ((∀ x ∈ xs, chAt S first epoch x.1) ∧ GI w (q0 + 4) (q0 + 1) (q0 + 1 + 1) m (fun i => S.now (first + i)) (gsOf (lastB S first) (xs.map Prod.fst)).1 (gsOf (lastB S first) (xs.map Prod.fst)).2 W') ∧ RdFix n0 (q0 + 1 + 1 + 1) M first count epoch W') ∨
      (e = .exit 0 ∧ ∃ pre' x, xs = pre' ++ [x] ∧ ¬ chAt S first epoch x.1 ∧ ((∀ x ∈ pre', chAt S first epoch x.1) ∧ GI w (q0 + 4) (q0 + 1) (q0 + 1 + 1) m (fun i => S.now (first + i)) (gsOf (lastB S first) (pre'.map Prod.fst)).1 (gsOf (lastB S first) (pre'.map Prod.fst)).2 W') ∧ RdFix n0 (q0 + 1 + 1 + 1) M first count epoch W'))
theorem cells_newR2' (W : World) (a b : Value) (T n : Nat) (h : W.heap.size = n) : ∀ (j : Nat) (u : Value), [a, b][j]? = some u → (W.alloc (.cells #[a, b] T)).cell? ((⟨n, 0, none⟩ : Addr).add j) = some u := h ▸ cells_newR2 W a b T
theorem cells_newR1' (W : World) (a : Value) (T n : Nat) (h : W.heap.size = n) : ∀ (j : Nat) (u : Value), [a][j]? = some u → (W.alloc (.cells #[a] T)).cell? ((⟨n, 0, none⟩ : Addr).add j) = some u := h ▸ cells_newR1 W a T
theorem own_sl {W : World} {base e size k : Nat} {v : Value} {xs : List Value} (h : W.ownsRow base e size v k xs) : ∃ A c, v = .slice A k c := by
  rcases h.2 with ⟨rfl, h0⟩ | ⟨g, cap, _, rfl, _⟩
  · exact ⟨none, 0, by rw [h0]⟩
  · exact ⟨_, cap, rfl⟩
theorem boxed_at {W : World} {q : Nat} (h : q = W.heap.size) (t : TypeId) (v : Value) : Boxed (W.alloc (.cells #[v] t)) q t v := h ▸ Boxed.new W t v
set_option maxRecDepth 100000 in
set_option maxHeartbeats 16000000 in
theorem read_at [Spare] (base first count epoch : Nat) (M : DM) (S : DS) (w : World) (hD : Dsk w base M S) (hup : S.down = false) (hpl : plB S.N first count) (he : isEpochB epoch = true) :
    Calls Try.prog 13 #[.pointer (some ⟨M.p, 0, none⟩), .int .i64 first, .int .i64 count, .int .i64 epoch] w (ReadP S first count epoch w) := by
  have hN := hD.hN.2
  obtain ⟨p0, p1, p2, p3⟩ := hpl
  have hfc : first + count ≤ S.N := by omega
  have KP := Lib.hid (fun (W : World) (l : Below w.heap.size w W) => (placeOf_any first count W base M S (hD.below l) (by omega) (by omega) (by omega)).mono (R' := fun e w' => e = .returned (.tuple #[.agg #[.pointer (some ⟨M.p, 0, none⟩), .int .i64 first, .int .i64 count], .int .i64 0]) ∧ Below W.heap.size W w') (fun e w' h => by
    obtain ⟨⟨_, h1⟩ | ⟨h0, _⟩, h2⟩ := h
    · exact ⟨h1, h2⟩
    · exact absurd ⟨p0, p1, p2, p3⟩ h0))
  have HE := Lib.hid he
  have HD := Lib.hid hD
  clear hD he
  refine (callsIn_wide (n := 8)).1 ?_
  refine callsIn_of_wp_marks Try.func13 rfl trivial ?_ rfl
  simp only [Try.ntmps13, List.size_toArray, List.length_cons, List.length_nil, Nat.reduceAdd, Nat.reduceSub, Array.replicate_succ, Array.replicate_zero, List.push_toArray, List.append_toArray, List.nil_append, List.cons_append]
  gi_upto_region 1 with (fail)
  obtain ⟨n0, hn0⟩ : ∃ n0, n0 = w.heap.size := ⟨_, rfl⟩
  obtain ⟨B0, hB0⟩ : ∃ B0 : World, B0 = ((w.alloc (.cells #[.int .i64 epoch] 3)).alloc (.cells #[.slice none 0 0] 32)).alloc (.cells #[.int .i64 0] 29) := ⟨_, rfl⟩
  have hb0 : Below n0 w B0 := by
    subst hB0 hn0
    exact (((Below.refl _ _).alloc (Nat.le_refl _) _).alloc (by simp) _).alloc (by simp; omega) _
  have hs0 : B0.heap.size = n0 + 3 := by subst hB0 hn0; simp
  have e0 : Boxed B0 n0 3 (.int .i64 epoch) := by subst hB0 hn0; exact ((Boxed.new _ _ _).alloc _).alloc _
  have e1 : Boxed B0 (n0 + 1) 32 (.slice none 0 0) := by subst hB0 hn0; exact (boxed_at (by simp) _ _).alloc _
  have e2 : Boxed B0 (n0 + 1 + 1) 29 (.int .i64 0) := by subst hB0 hn0; exact boxed_at (by simp) _ _
  rw [← hB0]
  rw [← hn0]
  have HB0 := Lib.hid hb0
  have KP1 := Lib.hid (KP.out B0 (by rw [← hn0]; exact hb0))
  have E := Lib.hid (And.intro e0 (And.intro e1 e2))
  have HN0 := Lib.hid hn0
  clear hb0 hB0 e0 e1 e2 KP hn0
  gi_wp2_with (first
    | (refine ⟨trivial, ?_⟩; gi_at_call 34; refine CallsIn.mono (callsIn_wide.2 KP1.out) ?_; rintro _ w1 ⟨rfl, l1⟩; have L1 := Lib.hid l1; have hs1 := l1.size; have hl1 : n0 < w1.heap.size := (by omega); have c0 := Boxed.cell (show Boxed w1 n0 3 (.int .i64 epoch) from (l1.block n0 (by omega)).trans E.out.1); clear l1)
    | (refine ⟨trivial, ?_⟩; gi_at_call 35; refine CallsIn.mono (callsIn_wide.2 (isEpoch_any _ _)) ?_; rintro _ _ ⟨rfl, rfl⟩; rw [HE.out])
    | (refine ⟨trivial, ?_⟩; gi_at_call 36; refine CallsIn.mono (callsIn_wide.2 (slots_any _ _ _ _)) ?_; rintro _ _ ⟨rfl, rfl⟩))
  obtain ⟨m, hm⟩ : ∃ m, m = S.size - 20 := ⟨_, rfl⟩
  have hS := HD.out.hS
  obtain ⟨q0, hq0⟩ : ∃ q0, q0 = w1.heap.size := ⟨_, rfl⟩
  obtain ⟨Wl, hWl⟩ : ∃ Wl : World, Wl = (((w1.alloc (.cells #[.pointer (some ⟨M.p, 0, none⟩), .int .i64 (first : Nat), .int .i64 (count : Nat)] 80)).alloc (.cells #[.slice none 0 0] 32)).alloc (.cells #[.slice none 0 0] 38)).alloc (.cells #[.pointer (some ⟨M.p, 0, none⟩), .int .i64 (first : Nat), .int .i64 (count : Nat)] 80) := ⟨_, rfl⟩
  have hsl : Wl.heap.size = q0 + 4 := by subst hWl hq0; simp
  have hbl1 : Below w1.heap.size w1 Wl := by
    subst hWl
    exact ((((Below.refl _ _).alloc (Nat.le_refl _) _).alloc (by simp) _).alloc (by simp; omega) _).alloc (by simp; omega) _
  have hblB : Below B0.heap.size B0 Wl := L1.out.trans (hbl1.mono L1.out.size)
  have hbl : Below n0 w Wl := HB0.out.trans (hblB.mono (by omega))
  have bG : Boxed Wl (q0 + 1) 32 (.slice none 0 0) := by subst hWl hq0; exact ((boxed_at (by simp) _ _).alloc _).alloc _
  have bg : Boxed Wl (q0 + 1 + 1) 38 (.slice none 0 0) := by subst hWl hq0; exact (boxed_at (by simp) _ _).alloc _
  have hBs : Wl.heap[q0 + 1 + 1 + 1]? = some (.cells #[.pointer (some ⟨M.p, 0, none⟩), .int .i64 (first : Nat), .int .i64 (count : Nat)] 80 (0, 0)) := by
    have := World.alloc_heap_new (((w1.alloc (.cells #[.pointer (some ⟨M.p, 0, none⟩), .int .i64 (first : Nat), .int .i64 (count : Nat)] 80)).alloc (.cells #[.slice none 0 0] 32)).alloc (.cells #[.slice none 0 0] 38)) (.cells #[.pointer (some ⟨M.p, 0, none⟩), .int .i64 (first : Nat), .int .i64 (count : Nat)] 80)
    rw [← hWl] at this
    simpa [← hq0] using this
  have g0 : Boxed Wl n0 3 (.int .i64 (epoch : Nat)) := (hblB.block n0 (by omega)).trans E.out.1
  have g1 : Boxed Wl (n0 + 1) 32 (.slice none 0 0) := (hblB.block (n0 + 1) (by omega)).trans E.out.2.1
  have g2 : Boxed Wl (n0 + 1 + 1) 29 (.int .i64 0) := (hblB.block (n0 + 1 + 1) (by omega)).trans E.out.2.2
  have hn0q : n0 + 3 ≤ q0 := by omega
  have hnw := HN0.out
  rw [← hWl, ← hq0]
  clear hWl hq0 hl1 c0 hs1 hbl1
  obtain ⟨i0, hi0, hz0, hz1, hz2⟩ := infoPartsR infoCh
  obtain ⟨i1, hi1, hy0, hy1, hy2⟩ := infoPartsR infoGr
  have hep : 1 ≤ epoch := by have := HE.out; unfold isEpochB at this; simp at this; omega
  have hsq := slots_seq (8 - 1) (by omega) (q0 + 1 + 1 + 1) base first count M S w HD.out hup hfc Wl (hnw ▸ hbl) hBs
  have GP0 : GI w (q0 + 4) (q0 + 1) (q0 + 1 + 1) m (fun i => S.now (first + i)) [] [] Wl :=
    ⟨fun _ => False, .slice none 0 0, .slice none 0 0, [], [], bG, bg, World.ownsRow_nil _ _ _ _, fun j v g' a b => by simp at a, World.ownsRow_nil _ _ _ _, ⟨rfl, fun j i x a b => by simp at a⟩, fun b hb => hb.elim, hnw ▸ hbl, by omega, fun _ => rfl, fun _ => rfl⟩
  refine SeqMem.loopA rfl (by omega) (gf := 57) (lb := #[.pointer (some ⟨q0 + 1 + 1 + 1, 0, none⟩)]) rfl trivial (enters_of Try.func57 (by kernel_rfl) rfl)
    hsq (fun h k => KpE.t h k) (KpE.b (by omega) (by omega)) (Below.refl _ _) (fun _ => rfl)
    (fun pre W => ((∀ x ∈ pre, chAt S first epoch x.1) ∧ GI w (q0 + 4) (q0 + 1) (q0 + 1 + 1) m (fun i => S.now (first + i)) (gsOf (lastB S first) (pre.map Prod.fst)).1 (gsOf (lastB S first) (pre.map Prod.fst)).2 W) ∧ RdFix n0 (q0 + 1 + 1 + 1) M first count epoch W)
    (fun cd pre W => cd = .exit 0 ∧ ∃ pre' x, pre = pre' ++ [x] ∧ ¬ chAt S first epoch x.1 ∧ ((∀ x ∈ pre', chAt S first epoch x.1) ∧ GI w (q0 + 4) (q0 + 1) (q0 + 1 + 1) m (fun i => S.now (first + i)) (gsOf (lastB S first) (pre'.map Prod.fst)).1 (gsOf (lastB S first) (pre'.map Prod.fst)).2 W) ∧ RdFix n0 (q0 + 1 + 1 + 1) M first count epoch W)
    (fun pre A C row hs hg hr => ⟨⟨hs.1.1, GI.own (B := Wl.heap.size) (by omega) (gsOf (lastB S first) (pre.map Prod.fst)) A C row hs.1.2 hg hr⟩, RdFix.own pre A C row hs.2 hg hr⟩)
    (fun cd pre A C row hs hg hr => by
      obtain ⟨h1, pre', x, h2, h3, ⟨h4, h5⟩, h6⟩ := hs
      exact ⟨h1, pre', x, h2, h3, ⟨h4, GI.own (B := Wl.heap.size) (by omega) (gsOf (lastB S first) (pre'.map Prod.fst)) A C row h5 hg hr⟩, RdFix.own pre A C row h6 hg hr⟩)
    ⟨⟨fun x hx => by simp at hx, GP0⟩, g0, g1, g2, hBs⟩
    (fun pre x a' W => (((∀ x ∈ pre, chAt S first epoch x.1) ∧ GI w (q0 + 4) (q0 + 1) (q0 + 1 + 1) m (fun i => S.now (first + i)) (gsOf (lastB S first) (pre.map Prod.fst)).1 (gsOf (lastB S first) (pre.map Prod.fst)).2 W) ∧ RdFix n0 (q0 + 1 + 1 + 1) M first count epoch W) ∧ SlY S first count w.heap.size x W ∧ ∃ B1, W.heap[B1]? = some (.cells #[.int .i64 (x.1 : Nat), .slice (some ⟨x.2, 0, none⟩) S.size S.size] 90 (0, 0)) ∧ a' = { tmps := #[Value.pointer (some ⟨M.p, 0, none⟩), .int .i64 (first : Nat), .int .i64 (count : Nat), .int .i64 (epoch : Nat), undef, undef, undef, .pointer (some ⟨n0, 0, none⟩), .pointer (some ⟨n0 + 1, 0, none⟩), .pointer (some ⟨n0 + 1 + 1, 0, none⟩), .pointer (some ⟨q0, 0, none⟩), .int .i64 0, .pointer (some ⟨q0 + 1, 0, none⟩), .pointer (some ⟨q0 + 1 + 1, 0, none⟩), .pointer (some ⟨B1, 0, none⟩), .int .i64 0, undef, undef, undef, .tuple #[.agg #[.pointer (some ⟨M.p, 0, none⟩), .int .i64 (first : Nat), .int .i64 (count : Nat)], .int .i64 0], .pointer (some ⟨M.p, 0, none⟩), .int .i64 (first : Nat), .int .i64 (count : Nat), .tuple #[.agg #[.pointer (some ⟨M.p, 0, none⟩), .int .i64 (first : Nat), .int .i64 (count : Nat)], .int .i64 0], .agg #[.pointer (some ⟨M.p, 0, none⟩), .int .i64 (first : Nat), .int .i64 (count : Nat)], .int .i64 0, .int .i64 0, .bool false, .bool false, .int .i64 (epoch : Nat), .bool true, .bool false, .bool false, .agg #[.pointer (some ⟨M.p, 0, none⟩), .int .i64 (first : Nat), .int .i64 (count : Nat)], .func (.func 57) #[] #[.pointer (some ⟨q0 + 1 + 1 + 1, 0, none⟩)], .agg #[.int .i64 (x.1 : Nat), .slice (some ⟨x.2, 0, none⟩) S.size S.size], .int .i64 0, undef, undef, undef, undef, undef, undef, undef, undef, undef, undef, undef, undef, undef, undef, undef, undef, undef, undef, undef, undef, undef, undef], defers := [] })
    (fun pre x a' W1 l o o' hl hs ho hc => by
      obtain ⟨⟨⟨h1, h2⟩, h3⟩, h4, B1, h5, h6⟩ := hs
      exact ⟨⟨⟨h1, (GI.own (B := Wl.heap.size) (by omega)).putObj (s := gsOf (lastB S first) (pre.map Prod.fst)) o' h2 hl ho hc⟩, RdFix.own.putObj (s := ()) o' h3 hl ho hc⟩, (slY_own (B := Wl.heap.size)).putObj o' h4 hl ho hc, B1, (fixed_own (B := Wl.heap.size)).putObj (s := ()) o' h5 hl ho hc, h6⟩)
    ?assign
    (fun xs W e a' W' => RdBP w M S first count epoch n0 q0 m xs W e W')
    ?body
    (fun xs W a' W' h => by
      obtain ⟨hr, hb, ⟨_, h1, h2⟩ | ⟨h, _⟩⟩ := h
      · exact ⟨hr.ko, ⟨hnw ▸ hr.bl, hr.fx _ (by omega) (by omega) (by omega)⟩, h1, h2⟩
      · cases h)
    (fun xs W a' W' h => by
      obtain ⟨hr, hb, ⟨h, _⟩ | ⟨h, _⟩⟩ := h
      · cases h
      · cases h)
    (fun xs W id a' W' h => by
      obtain ⟨hr, hb, ⟨h, _⟩ | ⟨h, h2⟩⟩ := h
      · cases h
      · cases h
        exact ⟨hr.ko, rfl, h2⟩)
    (fun xs W e a' W' h => by
      obtain ⟨hr, hb, ⟨h, _⟩ | ⟨h, _⟩⟩ := h
      · exact .inl h
      · exact .inr (.inr ⟨_, h⟩))
    ?done ?stop
  case assign =>
    rintro l pre x W K hI hy hlen hK
    have HKK := Lib.hid hK
    have HI := Lib.hid hI
    have HY := Lib.hid hy
    clear hK hI hy hsq GP0 hnw
    gi_wp2
    have hnw := HN0.out
    have hl3 : Below W.heap.size W (W.alloc (.cells #[.int .i64 (x.1 : Nat), .slice (some ⟨x.2, 0, none⟩) S.size S.size] 90)) := (Below.refl _ W).alloc (Nat.le_refl _) _
    have hsW : q0 + 4 ≤ W.heap.size := by
      obtain ⟨X, vG, vg, vs, ls, hp⟩ := HI.out.1.2
      exact hp.2.2.2.2.2.2.2.2.1
    exact HKK.out _ _ ⟨⟨⟨HI.out.1.1, (GI.own (B := Wl.heap.size) (by omega)).alloc (s := gsOf (lastB S first) (pre.map Prod.fst)) _ HI.out.1.2⟩, (RdFix.own (B := Wl.heap.size)).alloc (s := ()) _ HI.out.2⟩, (slY_own (B := Wl.heap.size)).alloc _ HY.out, W.heap.size, World.alloc_heap_new _ _, rfl⟩ (KeepsOthers.alloc _ _) (KpE.below hl3 (by omega) (by omega))
  case body =>
    rintro l pre x a' W ⟨⟨⟨hch, hgi⟩, hF⟩, hY, B1, hB1, rfl⟩ hlt
    obtain ⟨hrow, hx2, hx1⟩ := hY
    obtain ⟨gs, g, hgg⟩ : ∃ gs g, gsOf (lastB S first) (pre.map Prod.fst) = (gs, g) := ⟨_, _, rfl⟩
    rw [hgg] at hgi
    have hln := gsOf_len (lastB S first) (pre.map Prod.fst)
    rw [hgg, List.length_map] at hln
    have hnext : gsOf (lastB S first) ((pre ++ [x]).map Prod.fst) = gStep (lastB S first) (gs, g) x.1 := by rw [List.map_append, ← hgg]; exact gsOf_snoc _ _ _
    obtain ⟨X, vG, vg, vs, ls, hG⟩ := hgi
    obtain ⟨aG, cpG, rfl⟩ := own_sl hG.2.2.1
    obtain ⟨ag, cpg, rfl⟩ := own_sl hG.2.2.2.2.1
    have hsW : q0 + 4 ≤ W.heap.size := hG.2.2.2.2.2.2.2.2.1
    have s0 : W.cell? ⟨B1, 0, none⟩ = some (.int .i64 (x.1 : Nat)) := by simp [World.cell?, hB1]
    have s1 : W.cell? ⟨B1, 1, none⟩ = some (.slice (some ⟨x.2, 0, none⟩) S.size S.size) := by simp [World.cell?, hB1]
    have ce := hF.1.cell
    have hbytes := (hrow.bytes (o := 0) (m := S.size) (by omega)).congr (G := S.now (first + x.1)) (fun i hi => by simp)
    have HG := Lib.hid hG
    have HF := Lib.hid hF
    have HX := Lib.hid hnext
    have HGG := Lib.hid hgg
    have HC := Lib.hid hch
    have HB := Lib.hid hbytes
    have hx20 := Nat.le_trans (Nat.le_of_eq HN0.out) hx2
    have HM := Lib.hid hm
    clear hG hF hnext hgg hch hbytes hrow hB1 hx2 hsq GP0 hnw
    have hm1 : m + 20 ≤ S.size := by omega
    have hm2 : S.size ≤ m + 20 := by omega
    clear hm
    by_cases hx : chAt S first epoch x.1
    · obtain ⟨fl, hfl⟩ : ∃ fl, decide (flagN (S.now (first + x.1)) = 1) = fl := ⟨_, rfl⟩
      have KC := Lib.hid (change_yes x.1 x.2 0 S.size m S.size epoch (S.now (first + x.1)) W hep (by omega) (by omega) (by omega) (by omega) (by omega) (Nat.le_refl _) (by omega) HB.out (HM.out ▸ hx) fl hfl)
      have HFl := Lib.hid hfl
      have HXx := Lib.hid hx
      clear hx hfl
      obtain ⟨pg, hpg⟩ : ∃ pg, pg = pageI (S.now (first + x.1)) := ⟨_, rfl⟩
      rw [← hpg] at KC
      have HPg := Lib.hid hpg
      clear hpg
      cases fl
      · gi_wp2_with (first
        | (refine ⟨trivial, ?_⟩; gi_at_call 37; refine CallsIn.mono (callsIn_wide.2 KC.out) ?_; rintro _ w5 ⟨⟨b', o', d, rfl, hld, hb1, hb2⟩, l5⟩; have hl5 := l5.size; have LV : Below W.heap.size W ((w5.alloc (.cells #[.int .i64 pg, .slice (some ⟨b', o', none⟩) (m - 25) d] 44)).alloc (.cells #[.int .i64 pg, .slice (some ⟨b', o', none⟩) (m - 25) d] 44)) := (l5.alloc hl5 _).alloc (by simp <;> omega) _; have GV := HG.out.ext LV (fun q => q = b') (fun q e => by subst e; exact ⟨hb1, by simp <;> omega⟩); have HLd := Lib.hid (hld.keep (X' := fun q => X q ∨ q = b') (KeepX.heap (W' := (w5.alloc (.cells #[.int .i64 pg, .slice (some ⟨b', o', none⟩) (m - 25) d] 44)).alloc (.cells #[.int .i64 pg, .slice (some ⟨b', o', none⟩) (m - 25) d] 44)) fun q e => by subst e; exact (Below.heap_alloc _ _ _ (by simp <;> omega)).trans (Below.heap_alloc _ _ _ hb2)) (fun q e => .inr e)); have HGV := Lib.hid GV; have HLV := Lib.hid LV; have L5 := Lib.hid l5; have cg := Boxed.cell (show Boxed w5 (q0 + 1 + 1) 38 (.slice ag g.length cpg) from (l5.block _ (by omega)).trans HG.out.2.1); have hq1 : q0 + 1 + 1 < w5.heap.size := (by omega); have hq2 : q0 + 1 < w5.heap.size := (by omega); clear hld hb1 hb2 l5 LV GV)
        | (gi_at_builtin; refine wpListIn_append_own_at _ rfl _ _ 38 rfl (q0 + 4) 44 i0 (.agg #[.int .i64 0, .slice none 0 0]) 2 32 Try.underlying38 hi0 hz0 hz1 hz2 rfl (by decide) _ _ _ rfl HGV.out.2.2.2.2.1 ⟨w5.heap.size + 1, 0, none⟩ 1 1 [.int .i64 pg, .slice (some ⟨b', o', none⟩) (m - 25) d] rfl rfl (cells_newR2' _ _ _ _ _ (World.size_alloc _ _)) (by simp [Value.oneCell']) (by unfold maxLen; omega) (by omega) (by simp <;> omega) ?_; intro v2 w9 hown' hgrow _ hat; obtain ⟨g9, cap, rfl⟩ := ownsRow_succ hown'; have G9 := GI.push HGV.out.1 HGV.out.2.1 HGV.out.2.2.1 HGV.out.2.2.2.1 HGV.out.2.2.2.2.1 HGV.out.2.2.2.2.2.1 HGV.out.2.2.2.2.2.2.1 HGV.out.2.2.2.2.2.2.2.1 HGV.out.2.2.2.2.2.2.2.2.1 HGV.out.2.2.2.2.2.2.2.2.2.2 (i := x.1) (by rw [← HN0.out]; omega) (by rw [← HN0.out]; omega) (by omega) (by omega) ⟨HPg.out, HLd.out⟩ hown' hgrow (hat.imp id fun e => ⟨_, e, Nat.le_refl _⟩); have b9g : Boxed w9 (q0 + 1 + 1) 38 (.slice ag g.length cpg) := HGV.out.2.1.kept hgrow (HGV.out.2.1.not_row (by decide) HGV.out.2.2.2.2.1); have b9G : Boxed w9 (q0 + 1) 32 (.slice aG gs.length cpG) := HGV.out.1.kept hgrow (HGV.out.1.not_row (by decide) HGV.out.2.2.2.2.1); have c9g := b9g.cell; have f9g := b9g.frozen; have c9G := b9G.cell; have f9G := b9G.frozen; have hg9 := hgrow.size; have hq3 : q0 + 1 + 1 < w9.heap.size := b9g.lt; have hq4 : q0 + 1 < w9.heap.size := b9G.lt; have HG9 := Lib.hid G9; have HGr := Lib.hid hgrow; clear G9 hown' hgrow hat b9g b9G cg))
        have hnw := HN0.out
        have hR : Rb n0 (q0 + 4) (q0 + 1) (q0 + 1 + 1) W (w9.setCell ⟨q0 + 1 + 1, 0, none⟩ (.slice (some ⟨g9, 0, none⟩) (g.length + 1) cap)) :=
          ((Rb.below HLV.out (by omega) hsW).trans (Rb.own HGr.out HGV.out.2.2.2.2.1 (by omega) HGV.out.2.2.2.2.2.2.2.2.1)).trans (Rb.set (.inr rfl) (by omega) _)
        unfold RdBP
        refine ⟨hR, HF.out.2.2.2, .inl ⟨rfl, ⟨fun y hy => ?_, ?_⟩, HF.out.kept hR (by omega) (by omega) (by omega) (by omega)⟩⟩
        · rcases List.mem_append.1 hy with h | h
          · exact HC.out y h
          · rw [List.mem_singleton.1 h]; exact HXx.out
        · have e : gStep (lastB S first) (gs, g) x.1 = (gs, g ++ [x.1]) := by unfold gStep lastB; rw [HFl.out]; rfl
          rw [HX.out, e]
          exact ⟨_, _, _, _, _, HG9.out⟩
      · gi_wp2_with (first
        | (refine ⟨trivial, ?_⟩; gi_at_call 37; refine CallsIn.mono (callsIn_wide.2 KC.out) ?_; rintro _ w5 ⟨⟨b', o', d, rfl, hld, hb1, hb2⟩, l5⟩; have hl5 := l5.size; have LV : Below W.heap.size W ((w5.alloc (.cells #[.int .i64 pg, .slice (some ⟨b', o', none⟩) (m - 25) d] 44)).alloc (.cells #[.int .i64 pg, .slice (some ⟨b', o', none⟩) (m - 25) d] 44)) := (l5.alloc hl5 _).alloc (by simp <;> omega) _; have GV := HG.out.ext LV (fun q => q = b') (fun q e => by subst e; exact ⟨hb1, by simp <;> omega⟩); have HLd := Lib.hid (hld.keep (X' := fun q => X q ∨ q = b') (KeepX.heap (W' := (w5.alloc (.cells #[.int .i64 pg, .slice (some ⟨b', o', none⟩) (m - 25) d] 44)).alloc (.cells #[.int .i64 pg, .slice (some ⟨b', o', none⟩) (m - 25) d] 44)) fun q e => by subst e; exact (Below.heap_alloc _ _ _ (by simp <;> omega)).trans (Below.heap_alloc _ _ _ hb2)) (fun q e => .inr e)); have HGV := Lib.hid GV; have HLV := Lib.hid LV; have L5 := Lib.hid l5; have cg := Boxed.cell (show Boxed w5 (q0 + 1 + 1) 38 (.slice ag g.length cpg) from (l5.block _ (by omega)).trans HG.out.2.1); have hq1 : q0 + 1 + 1 < w5.heap.size := (by omega); have hq2 : q0 + 1 < w5.heap.size := (by omega); clear hld hb1 hb2 l5 LV GV)
        | (gi_at_builtin; refine wpListIn_append_own_at _ rfl _ _ 38 rfl (q0 + 4) 44 i0 (.agg #[.int .i64 0, .slice none 0 0]) 2 32 Try.underlying38 hi0 hz0 hz1 hz2 rfl (by decide) _ _ _ rfl HGV.out.2.2.2.2.1 ⟨w5.heap.size + 1, 0, none⟩ 1 1 [.int .i64 pg, .slice (some ⟨b', o', none⟩) (m - 25) d] rfl rfl (cells_newR2' _ _ _ _ _ (World.size_alloc _ _)) (by simp [Value.oneCell']) (by unfold maxLen; omega) (by omega) (by simp <;> omega) ?_; intro v2 w9 hown' hgrow _ hat; obtain ⟨g9, cap, rfl⟩ := ownsRow_succ hown'; have G9 := GI.push HGV.out.1 HGV.out.2.1 HGV.out.2.2.1 HGV.out.2.2.2.1 HGV.out.2.2.2.2.1 HGV.out.2.2.2.2.2.1 HGV.out.2.2.2.2.2.2.1 HGV.out.2.2.2.2.2.2.2.1 HGV.out.2.2.2.2.2.2.2.2.1 HGV.out.2.2.2.2.2.2.2.2.2.2 (i := x.1) (by rw [← HN0.out]; omega) (by rw [← HN0.out]; omega) (by omega) (by omega) ⟨HPg.out, HLd.out⟩ hown' hgrow (hat.imp id fun e => ⟨_, e, Nat.le_refl _⟩); have b9g : Boxed w9 (q0 + 1 + 1) 38 (.slice ag g.length cpg) := HGV.out.2.1.kept hgrow (HGV.out.2.1.not_row (by decide) HGV.out.2.2.2.2.1); have b9G : Boxed w9 (q0 + 1) 32 (.slice aG gs.length cpG) := HGV.out.1.kept hgrow (HGV.out.1.not_row (by decide) HGV.out.2.2.2.2.1); have c9g := b9g.cell; have f9g := b9g.frozen; have c9G := b9G.cell; have f9G := b9G.frozen; have hg9 := hgrow.size; have hq3 : q0 + 1 + 1 < w9.heap.size := b9g.lt; have hq4 : q0 + 1 < w9.heap.size := b9G.lt; have HG9 := Lib.hid G9; have HGr := Lib.hid hgrow; clear G9 hown' hgrow hat b9g b9G cg)
        | (gi_at_builtin; refine wpListIn_append_own_at _ rfl _ _ 32 rfl (q0 + 4) 38 i1 (.slice none 0 0) 1 24 Try.underlying32 hi1 hy0 hy1 hy2 rfl (by decide) _ _ _ rfl (HG9.out.ext ((Below.refl _ _).alloc (Nat.le_refl _) (.cells #[.slice (some ⟨g9, 0, none⟩) (g.length + 1) cap] 38)) (fun _ => False) (fun _ h => h.elim)).2.2.1 ⟨w9.heap.size, 0, none⟩ 1 1 [.slice (some ⟨g9, 0, none⟩) (g.length + 1) cap] rfl rfl (cells_newR1' _ _ _ _ (size_set _ _ _)) (by simp [Value.oneCell']) (by unfold maxLen; omega) (by omega) (by simp <;> omega) ?_; intro v3 w10 hown2 hgrow2 _ hat2; obtain ⟨g10, cap2, rfl⟩ := ownsRow_succ hown2; have G10 := GI.close' (by simp) (HG9.out.ext ((Below.refl _ _).alloc (Nat.le_refl _) (.cells #[.slice (some ⟨g9, 0, none⟩) (g.length + 1) cap] 38)) (fun _ => False) (fun _ h => h.elim)) (by rw [← HN0.out]; omega) (by rw [← HN0.out]; omega) (by rw [← HN0.out]; omega) (by omega) (by omega) (by omega) hown2 hgrow2 (hat2.imp id fun e => ⟨_, e, Nat.le_refl _⟩); have GQ := HG9.out.ext ((Below.refl _ _).alloc (Nat.le_refl _) (.cells #[.slice (some ⟨g9, 0, none⟩) (g.length + 1) cap] 38)) (fun _ => False) (fun _ h => h.elim); have b10g : Boxed w10 (q0 + 1 + 1) 38 (.slice (some ⟨g9, 0, none⟩) (g.length + 1) cap) := GQ.2.1.kept hgrow2 (fun e => by have := (GQ.2.2.1.lt _ e.symm).1; omega); have b10G : Boxed w10 (q0 + 1) 32 (.slice aG gs.length cpG) := GQ.1.kept hgrow2 (GQ.1.not_row (by decide) GQ.2.2.1); have d10g := b10g.cell; have e10g := b10g.frozen; have d10G := b10G.cell; have e10G := b10G.frozen; have hq5 : q0 + 1 + 1 < w10.heap.size := b10g.lt; have hq6 : q0 + 1 < w10.heap.size := b10G.lt; have HG10 := Lib.hid G10; have HGr2 := Lib.hid hgrow2; have HGQ := Lib.hid GQ; clear G10 hown2 hgrow2 hat2 b10g b10G GQ))
        have hnw := HN0.out
        have hR : Rb n0 (q0 + 4) (q0 + 1) (q0 + 1 + 1) W ((w10.setCell ⟨q0 + 1, 0, none⟩ (.slice (some ⟨g10, 0, none⟩) (gs.length + 1) cap2)).setCell ⟨q0 + 1 + 1, 0, none⟩ (.slice none 0 0)) :=
          ((((((Rb.below HLV.out (by omega) hsW).trans (Rb.own HGr.out HGV.out.2.2.2.2.1 (by omega) HGV.out.2.2.2.2.2.2.2.2.1)).trans (Rb.set (.inr rfl) (by omega) _)).trans (Rb.below ((Below.refl _ _).alloc (Nat.le_refl _) _) (by omega) HG9.out.2.2.2.2.2.2.2.2.1)).trans (Rb.own HGr2.out HGQ.out.2.2.1 (by omega) HGQ.out.2.2.2.2.2.2.2.2.1)).trans (Rb.set (.inl rfl) (by omega) _)).trans (Rb.set (.inr rfl) (by omega) _)
        unfold RdBP
        refine ⟨hR, HF.out.2.2.2, .inl ⟨rfl, ⟨fun y hy => ?_, ?_⟩, HF.out.kept hR (by omega) (by omega) (by omega) (by omega)⟩⟩
        · rcases List.mem_append.1 hy with h | h
          · exact HC.out y h
          · rw [List.mem_singleton.1 h]; exact HXx.out
        · have e : gStep (lastB S first) (gs, g) x.1 = (gs ++ [g ++ [x.1]], []) := by unfold gStep lastB; rw [HFl.out]; rfl
          rw [HX.out, e]
          exact ⟨_, _, _, _, _, HG10.out⟩
    · have KC := Lib.hid (change_no x.1 x.2 0 S.size m S.size epoch (S.now (first + x.1)) W hep (by omega) (by omega) (by omega) (by omega) (by omega) (Nat.le_refl _) (by omega) HB.out (HM.out ▸ hx))
      have HXx := Lib.hid hx
      clear hx
      gi_wp2_with (refine ⟨trivial, ?_⟩; gi_at_call 37; refine CallsIn.mono (callsIn_wide.2 KC.out) ?_; rintro _ w5 ⟨rfl, l5⟩; have L5 := Lib.hid l5; clear l5)
      have hnw := HN0.out
      have hR : Rb n0 (q0 + 4) (q0 + 1) (q0 + 1 + 1) W (w5.alloc (.cells #[.int .i64 0, .slice none 0 0] 44)) := Rb.below (L5.out.alloc (L5.out.size) _) (by omega) hsW
      unfold RdBP
      refine ⟨hR, HF.out.2.2.2, .inr ⟨rfl, pre, x, rfl, HXx.out, ⟨HC.out, ?_⟩, HF.out.kept hR (by omega) (by omega) (by omega) (by omega)⟩⟩
      rw [HGG.out]
      exact GI.below ⟨X, _, _, vs, ls, HG.out⟩ (L5.out.alloc (L5.out.size) _)
  case done =>
    rintro D xs W hDl hSx ⟨⟨hch, X, vG, vg, vs, ls, hG⟩, hF⟩ hK
    obtain ⟨gs, hgs⟩ : ∃ gs, gs = (gsOf (lastB S first) (xs.map Prod.fst)).1 := ⟨_, rfl⟩
    rw [← hgs] at hG
    obtain ⟨aG, cpG, rfl⟩ := own_sl hG.2.2.1
    have HGs := Lib.hid hgs
    clear hgs
    have cG := hG.1.cell
    have d1 := hF.2.1.cell
    have d2 := hF.2.2.1.cell
    have f1 := hF.2.1.frozen
    have f2 := hF.2.2.1.frozen
    have HG := Lib.hid hG
    have HF := Lib.hid hF
    have HK := Lib.hid hK
    have HC := Lib.hid hch
    clear hG hF hK hch hsq GP0 hnw
    gi_wp2
    have hnw := HN0.out
    have hn1 : n0 + 1 ≠ D := fun e => by have := HF.out.2.1; have k := HK.out; rw [← e, this] at k; cases k
    have hn2 : n0 + 1 + 1 ≠ D := fun e => by have := HF.out.2.2.1; have k := HK.out; rw [← e, this] at k; cases k
    have hDk : ((W.setCell ⟨n0 + 1, 0, none⟩ (.slice aG gs.length cpG)).setCell ⟨n0 + 1 + 1, 0, none⟩ (.int .i64 0)).heap[D]? = some (.deferred (some [])) := ((Below.heap_setCell _ _ _ _ (by show D ≠ n0 + 1 + 1; omega)).trans (Below.heap_setCell _ _ _ _ (by show D ≠ n0 + 1; omega))).trans HK.out
    have hR := read_fin (k := count) (count := count) (epoch := epoch) HG.out hnw (by omega) (.deferred none) HK.out hm (Nat.le_refl _) (fun i hi => by
      have : i ∈ xs.map Prod.fst := by rw [hSx]; exact List.mem_range.2 hi
      obtain ⟨x, hx, rfl⟩ := List.mem_map.1 this
      exact HC.out x hx) (fun h => absurd h (Nat.lt_irrefl _)) (by rw [HGs.out, hSx]; rfl) ⟨_, HF.out.2.1⟩ ⟨_, HF.out.2.2.1⟩ (by omega)
    refine ⟨by simp, .inl ⟨_, _, rfl, run_takeDeferred hDk, ?_⟩⟩
    have r1 : Boxed (((W.setCell ⟨n0 + 1, 0, none⟩ (.slice aG gs.length cpG)).setCell ⟨n0 + 1 + 1, 0, none⟩ (.int .i64 0)).putObj D (.deferred none)) (n0 + 1) 32 (.slice aG gs.length cpG) :=
      ((Boxed.set _ HF.out.2.1).other (by omega) _).kept (grownBy_putObj' _ D _) (fun e => hn1 (by cases e; rfl))
    have r2 : Boxed (((W.setCell ⟨n0 + 1, 0, none⟩ (.slice aG gs.length cpG)).setCell ⟨n0 + 1 + 1, 0, none⟩ (.int .i64 0)).putObj D (.deferred none)) (n0 + 1 + 1) 29 (.int .i64 0) :=
      (Boxed.set _ (Boxed.other HF.out.2.2.1 (by omega) _)).kept (grownBy_putObj' _ D _) (fun e => hn2 (by cases e; rfl))
    have k1 := r1.cell
    have k2 := r2.cell
    refine ⟨_, ?_, hR⟩
    simp [results, Try.f13, go_sem, k1, k2]
  case stop =>
    rintro D cd pre W hDl ⟨hSx, hSl⟩ ⟨rfl, xs, x, rfl, hno, ⟨hch, X, vG, vg, vs, ls, hG⟩, hF⟩ hK
    rw [List.map_append, List.length_append, show [x].length = 1 from rfl, List.range_succ] at hSx
    have hSa := List.append_inj hSx (by simp)
    have hSb : x.1 = xs.length := by have := hSa.2; simpa using this
    have hSy := Lib.hid hSa.1
    have hSc : xs.length + 1 ≤ count := by simpa using hSl
    rw [hSb] at hno
    have HNo := Lib.hid hno
    clear hSx hSa hSb hSl hno
    obtain ⟨gs, hgs⟩ : ∃ gs, gs = (gsOf (lastB S first) (xs.map Prod.fst)).1 := ⟨_, rfl⟩
    rw [← hgs] at hG
    obtain ⟨aG, cpG, rfl⟩ := own_sl hG.2.2.1
    have HGs := Lib.hid hgs
    clear hgs
    have cG := hG.1.cell
    have d1 := hF.2.1.cell
    have d2 := hF.2.2.1.cell
    have f1 := hF.2.1.frozen
    have f2 := hF.2.2.1.frozen
    have HG := Lib.hid hG
    have HF := Lib.hid hF
    have HK := Lib.hid hK
    have HC := Lib.hid hch
    clear hG hF hK hch hsq GP0 hnw
    gi_wp2
    have hnw := HN0.out
    have hn1 : n0 + 1 ≠ D := fun e => by have := HF.out.2.1; have k := HK.out; rw [← e, this] at k; cases k
    have hn2 : n0 + 1 + 1 ≠ D := fun e => by have := HF.out.2.2.1; have k := HK.out; rw [← e, this] at k; cases k
    have hDk : ((W.setCell ⟨n0 + 1, 0, none⟩ (.slice aG gs.length cpG)).setCell ⟨n0 + 1 + 1, 0, none⟩ (.int .i64 0)).heap[D]? = some (.deferred (some [])) := ((Below.heap_setCell _ _ _ _ (by show D ≠ n0 + 1 + 1; omega)).trans (Below.heap_setCell _ _ _ _ (by show D ≠ n0 + 1; omega))).trans HK.out
    have hR := read_fin (k := xs.length) (count := count) (epoch := epoch) HG.out hnw (by omega) (.deferred none) HK.out hm (by omega) (fun i hi => by
      have : i ∈ xs.map Prod.fst := by rw [hSy.out]; exact List.mem_range.2 hi
      obtain ⟨x, hx, rfl⟩ := List.mem_map.1 this
      exact HC.out x hx) (fun _ => HNo.out) (by rw [HGs.out, hSy.out]; rfl) ⟨_, HF.out.2.1⟩ ⟨_, HF.out.2.2.1⟩ (by omega)
    refine ⟨by simp, .inl ⟨_, _, rfl, run_takeDeferred hDk, ?_⟩⟩
    have r1 : Boxed (((W.setCell ⟨n0 + 1, 0, none⟩ (.slice aG gs.length cpG)).setCell ⟨n0 + 1 + 1, 0, none⟩ (.int .i64 0)).putObj D (.deferred none)) (n0 + 1) 32 (.slice aG gs.length cpG) :=
      ((Boxed.set _ HF.out.2.1).other (by omega) _).kept (grownBy_putObj' _ D _) (fun e => hn1 (by cases e; rfl))
    have r2 : Boxed (((W.setCell ⟨n0 + 1, 0, none⟩ (.slice aG gs.length cpG)).setCell ⟨n0 + 1 + 1, 0, none⟩ (.int .i64 0)).putObj D (.deferred none)) (n0 + 1 + 1) 29 (.int .i64 0) :=
      (Boxed.set _ (Boxed.other HF.out.2.2.1 (by omega) _)).kept (grownBy_putObj' _ D _) (fun e => hn2 (by cases e; rfl))
    have k1 := r1.cell
    have k2 := r2.cell
    refine ⟨_, ?_, hR⟩
    simp [results, Try.f13, go_sem, k1, k2]
end Go.Proofs.Ytmikemijdglgaaa
/- log.Read, Latest, Clean on no disk, and Read where no log may stand. -/
namespace Go.Proofs.Ytmikemijdglgaaa
open Go.RowKit
set_option linter.unusedVariables false
set_option linter.unusedSimpArgs false

set_option maxRecDepth 100000 in
set_option maxHeartbeats 4000000 in
theorem read_bad (dv : Value) (first count epoch : Int) (w : World) (hP : ∀ W, Below w.heap.size w W → Calls Try.prog 34 #[dv, .int .i64 first, .int .i64 count] W fun e w' => e = .returned (.tuple #[.agg #[.pointer none, .int .i64 0, .int .i64 0], .int .i64 1]) ∧ Below W.heap.size W w') :
    Calls Try.prog 13 #[dv, .int .i64 first, .int .i64 count, .int .i64 epoch] w fun e w' => e = .returned (.tuple #[.slice none 0 0, .int .i64 1]) ∧ Below w.heap.size w w' := by
  obtain ⟨B0, hB0⟩ : ∃ B0 : World, B0 = ((w.alloc (.cells #[.int .i64 epoch] 3)).alloc (.cells #[.slice none 0 0] 32)).alloc (.cells #[.int .i64 0] 29) := ⟨_, rfl⟩
  have hb0 : Below w.heap.size w B0 := by
    subst hB0
    exact (((Below.refl _ _).alloc (Nat.le_refl _) _).alloc (by simp) _).alloc (by simp; omega) _
  have hs0 : B0.heap.size = w.heap.size + 3 := by subst hB0; simp
  have e1 : Boxed B0 (w.heap.size + 1) 32 (.slice none 0 0) := by subst hB0; exact (boxed_at (by simp) _ _).alloc _
  have e2 : Boxed B0 (w.heap.size + 1 + 1) 29 (.int .i64 0) := by subst hB0; exact boxed_at (by simp) _ _
  have KP := Lib.hid (hP B0 hb0)
  have HB := Lib.hid hB0
  have HE := Lib.hid (And.intro hb0 (And.intro e1 e2))
  rw [HB.out] at KP
  clear hB0 hb0 e1 e2 hP
  go_enter Try.func13, Try.ntmps13
  go_upto_region 1 with (fail)
  rw [← HB.out] at KP ⊢
  go_wp2_with (go_at_call 34; refine KP.out.mono ?_; rintro _ w1 ⟨rfl, l1⟩; have hs1 := l1.size; have b1 : Boxed w1 (w.heap.size + 1) 32 (.slice none 0 0) := (l1.block _ (by omega)).trans HE.out.2.1; have b2 : Boxed w1 (w.heap.size + 1 + 1) 29 (.int .i64 0) := (l1.block _ (by omega)).trans HE.out.2.2; have c1 := b1.cell; have c2 := b2.cell; have f1 := b1.frozen; have f2 := b2.frozen; have hl1 : w.heap.size + 1 < w1.heap.size := (by omega); have hl2 : w.heap.size + 1 + 1 < w1.heap.size := (by omega); have HL := Lib.hid (And.intro l1 (And.intro b1 b2)); clear l1 b1 b2)
  have b1 := ((Boxed.set (.slice none 0 0) HL.out.2.1).other (B' := w.heap.size + 1 + 1) (by omega) (.int .i64 1)).alloc (.cells #[.pointer none, .int .i64 0, .int .i64 0] 80)
  have b2 := (Boxed.set (.int .i64 1) (HL.out.2.2.other (B' := w.heap.size + 1) (by omega) (.slice none 0 0))).alloc (.cells #[.pointer none, .int .i64 0, .int .i64 0] 80)
  have k1 := b1.cell
  have k2 := b2.cell
  refine bodyPost_ret (v := .tuple #[.slice none 0 0, .int .i64 1]) (by simp [results, Try.results13, go_sem, k1, k2]) rfl ⟨rfl, ?_⟩
  exact (((HE.out.1.trans (HL.out.1.mono HE.out.1.size)).setCell (p := ⟨w.heap.size + 1, 0, none⟩) (by show w.heap.size ≤ w.heap.size + 1; omega) _).setCell (p := ⟨w.heap.size + 1 + 1, 0, none⟩) (by show w.heap.size ≤ w.heap.size + 1 + 1; omega) _).alloc (by rw [size_set, size_set]; omega) _
theorem readNil_any (first count epoch : Int) (w : World) :
    Calls Try.prog 13 #[.pointer none, .int .i64 first, .int .i64 count, .int .i64 epoch] w fun e w' => e = .returned (.tuple #[.slice none 0 0, .int .i64 1]) ∧ Below w.heap.size w w' :=
  read_bad _ first count epoch w fun W _ => placeNil_any first count W
theorem read_off [Spare] (first count epoch : Int) (w : World) (base : Nat) (M : DM) (S : DS) (h : Dsk w base M S) (f0 : -9223372036854775808 ≤ first) (f1 : first ≤ 9223372036854775807) (c1 : count ≤ 9223372036854775807) (hno : ¬ plB S.N first count) :
    Calls Try.prog 13 #[.pointer (some ⟨M.p, 0, none⟩), .int .i64 first, .int .i64 count, .int .i64 epoch] w fun e w' => e = .returned (.tuple #[.slice none 0 0, .int .i64 1]) ∧ Below w.heap.size w w' :=
  read_bad _ first count epoch w fun W l => (placeOf_any first count W base M S (h.below l) f0 f1 c1).mono fun e w' k => by
    obtain ⟨⟨k0, _⟩ | ⟨_, k1⟩, k2⟩ := k
    · exact absurd k0 hno
    · exact ⟨k1, k2⟩
set_option maxRecDepth 100000 in
set_option maxHeartbeats 4000000 in
theorem latest_bad (dv : Value) (first count : Int) (w : World) (hP : ∀ W, Below w.heap.size w W → Calls Try.prog 34 #[dv, .int .i64 first, .int .i64 count] W fun e w' => e = .returned (.tuple #[.agg #[.pointer none, .int .i64 0, .int .i64 0], .int .i64 1]) ∧ Below W.heap.size W w') :
    Calls Try.prog 22 #[dv, .int .i64 first, .int .i64 count] w fun e w' => e = .returned (.tuple #[.int .i64 0, .int .i64 1]) ∧ Below w.heap.size w w' := by
  obtain ⟨B0, hB0⟩ : ∃ B0 : World, B0 = (w.alloc (.cells #[.int .i64 0] 3)).alloc (.cells #[.int .i64 0] 29) := ⟨_, rfl⟩
  have hb0 : Below w.heap.size w B0 := by
    subst hB0
    exact ((Below.refl _ _).alloc (Nat.le_refl _) _).alloc (by simp) _
  have hs0 : B0.heap.size = w.heap.size + 2 := by subst hB0; simp
  have e1 : Boxed B0 w.heap.size 3 (.int .i64 0) := by subst hB0; exact (Boxed.new _ _ _).alloc _
  have e2 : Boxed B0 (w.heap.size + 1) 29 (.int .i64 0) := by subst hB0; exact boxed_at (by simp) _ _
  have KP := Lib.hid (hP B0 hb0)
  have HB := Lib.hid hB0
  have HE := Lib.hid (And.intro hb0 (And.intro e1 e2))
  rw [HB.out] at KP
  clear hB0 hb0 e1 e2 hP
  go_enter Try.func22, Try.ntmps22
  go_upto_region 1 with (fail)
  rw [← HB.out] at KP ⊢
  go_wp2_with (go_at_call 34; refine KP.out.mono ?_; rintro _ w1 ⟨rfl, l1⟩; have hs1 := l1.size; have b1 : Boxed w1 w.heap.size 3 (.int .i64 0) := (l1.block _ (by omega)).trans HE.out.2.1; have b2 : Boxed w1 (w.heap.size + 1) 29 (.int .i64 0) := (l1.block _ (by omega)).trans HE.out.2.2; have c1 := b1.cell; have c2 := b2.cell; have f1 := b1.frozen; have f2 := b2.frozen; have hl1 : w.heap.size < w1.heap.size := (by omega); have hl2 : w.heap.size + 1 < w1.heap.size := (by omega); have HL := Lib.hid (And.intro l1 (And.intro b1 b2)); clear l1 b1 b2)
  have b1 := ((Boxed.set (.int .i64 0) HL.out.2.1).other (B' := w.heap.size + 1) (by omega) (.int .i64 1)).alloc (.cells #[.pointer none, .int .i64 0, .int .i64 0] 80)
  have b2 := (Boxed.set (.int .i64 1) (HL.out.2.2.other (B' := w.heap.size) (by omega) (.int .i64 0))).alloc (.cells #[.pointer none, .int .i64 0, .int .i64 0] 80)
  have k1 := b1.cell
  have k2 := b2.cell
  refine bodyPost_ret (v := .tuple #[.int .i64 0, .int .i64 1]) (by simp [results, Try.results22, go_sem, k1, k2]) rfl ⟨rfl, ?_⟩
  exact (((HE.out.1.trans (HL.out.1.mono HE.out.1.size)).setCell (p := ⟨w.heap.size, 0, none⟩) (Nat.le_refl _) _).setCell (p := ⟨w.heap.size + 1, 0, none⟩) (by show w.heap.size ≤ w.heap.size + 1; omega) _).alloc (by rw [size_set, size_set]; omega) _
theorem latestNil_any (first count : Int) (w : World) :
    Calls Try.prog 22 #[.pointer none, .int .i64 first, .int .i64 count] w fun e w' => e = .returned (.tuple #[.int .i64 0, .int .i64 1]) ∧ Below w.heap.size w w' :=
  latest_bad _ first count w fun W _ => placeNil_any first count W
set_option maxRecDepth 100000 in
set_option maxHeartbeats 4000000 in
theorem clean_bad (dv : Value) (hdv : dv = .pointer none ∨ ∃ p, dv = .pointer (some ⟨p, 0, none⟩)) (first count : Int) (w : World) (hP : ∀ W, Below w.heap.size w W → Calls Try.prog 34 #[dv, .int .i64 first, .int .i64 count] W fun e w' => e = .returned (.tuple #[.agg #[.pointer none, .int .i64 0, .int .i64 0], .int .i64 1]) ∧ Below W.heap.size W w') :
    Calls Try.prog 27 #[dv, .int .i64 first, .int .i64 count] w fun e w' => e = .returned (.int .i64 1) ∧ Below w.heap.size w w' := by
  obtain ⟨B0, hB0⟩ : ∃ B0 : World, B0 = (w.alloc (.cells #[dv] 26)).alloc (.cells #[.int .i64 0] 29) := ⟨_, rfl⟩
  have hb0 : Below w.heap.size w B0 := by
    subst hB0
    exact ((Below.refl _ _).alloc (Nat.le_refl _) _).alloc (by simp) _
  have hs0 : B0.heap.size = w.heap.size + 2 := by subst hB0; simp
  have e1 : Boxed B0 w.heap.size 26 dv := by subst hB0; exact (Boxed.new _ _ _).alloc _
  have e2 : Boxed B0 (w.heap.size + 1) 29 (.int .i64 0) := by subst hB0; exact boxed_at (by simp) _ _
  have KP := Lib.hid (hP B0 hb0)
  have HB := Lib.hid hB0
  have HE := Lib.hid (And.intro hb0 (And.intro e1 e2))
  have e1c := e1.cell
  have HC := Lib.hid e1c
  rw [HB.out] at KP HC
  clear hB0 hb0 e1 e2 hP e1c
  rcases hdv with rfl | ⟨p, rfl⟩
  all_goals
    go_enter Try.func27, Try.ntmps27
    go_upto_region 1 with (fail)
    rw [← HB.out] at KP HC ⊢
    have e1c := HC.out
    go_wp2_with (go_at_call 34; refine KP.out.mono ?_; rintro _ w1 ⟨rfl, l1⟩; have hs1 := l1.size; have b2 : Boxed w1 (w.heap.size + 1) 29 (.int .i64 0) := (l1.block _ (by omega)).trans HE.out.2.2; have c2 := b2.cell; have f2 := b2.frozen; have hl2 : w.heap.size + 1 < w1.heap.size := (by omega); have HL := Lib.hid (And.intro l1 b2); clear l1 b2)
    have b2 := (Boxed.set (.int .i64 1) HL.out.2).alloc (.cells #[.pointer none, .int .i64 0, .int .i64 0] 80)
    have k2 := b2.cell
    refine bodyPost_ret (v := .int .i64 1) (by simp [results, Try.results27, go_sem, k2]) rfl ⟨rfl, ?_⟩
    exact ((HE.out.1.trans (HL.out.1.mono HE.out.1.size)).setCell (p := ⟨w.heap.size + 1, 0, none⟩) (by show w.heap.size ≤ w.heap.size + 1; omega) _).alloc (by rw [size_set]; omega) _
theorem cleanNil_any (first count : Int) (w : World) :
    Calls Try.prog 27 #[.pointer none, .int .i64 first, .int .i64 count] w fun e w' => e = .returned (.int .i64 1) ∧ Below w.heap.size w w' :=
  clean_bad _ (.inl rfl) first count w fun W _ => placeNil_any first count W
end Go.Proofs.Ytmikemijdglgaaa
/- the law's full and awake of chapter 11: plain. -/
namespace Go.Proofs.Ytmikemijdglgaaa
open Go.RowKit
set_option linter.unusedVariables false
def awX (A : Nat → Option Addr) (i : Nat) : ChD := ⟨if i = 0 then 5 else 6, A i, 19, 19, fun _ => if i = 0 then 1 else 2⟩
def awS (A : Nat → Option Addr) : DS := flushD (wrS 2 64 (logSec 64 1 0 2 (awX A)) (newS 8 64) 2)
theorem awS_0 (A : Nat → Option Addr) : chAt (awS A) 2 1 0 := by
  show chAt (awS fun _ => none) 2 1 0
  decide +kernel
theorem awS_1 (A : Nat → Option Addr) : chAt (awS A) 2 1 1 := by
  show chAt (awS fun _ => none) 2 1 1
  decide +kernel
theorem awS_2 (A : Nat → Option Addr) : ¬ chAt (awS A) 2 1 2 := by
  show ¬ chAt (awS fun _ => none) 2 1 2
  decide +kernel
theorem awW_0 (A : Nat → Option Addr) : ∀ j, j < 2 → wrI 2 64 (logSec 64 1 0 2 (awX A)) (newS 8 64) j = 0 := by
  show ∀ j, j < 2 → wrI 2 64 (logSec 64 1 0 2 (awX fun _ => none)) (newS 8 64) j = 0
  decide +kernel
theorem awW_f (A : Nat → Option Addr) : flushI (wrS 2 64 (logSec 64 1 0 2 (awX A)) (newS 8 64) 2) = 0 := by
  show flushI (wrS 2 64 (logSec 64 1 0 2 (awX fun _ => none)) (newS 8 64) 2) = 0
  decide +kernel
theorem awL (A : Nat → Option Addr) : lastB (awS A) 2 0 = false ∧ lastB (awS A) 2 1 = true := by
  show lastB (awS fun _ => none) 2 0 = false ∧ lastB (awS fun _ => none) 2 1 = true
  decide +kernel
theorem awG (A : Nat → Option Addr) : (gTo (lastB (awS A) 2) 2).1 = [[0, 1]] := by
  show ((List.range 2).foldl (gStep (lastB (awS A) 2)) ([], [])).1 = [[0, 1]]
  simp [List.range_succ, gStep, (awL A).1, (awL A).2]
theorem awU (A : Nat → Option Addr) : (awS A).down = false ∧ (awS A).N = 8 ∧ (awS A).size = 64 ∧ (awS A).loose.length ≤ 9 := by
  show (awS fun _ => none).down = false ∧ (awS fun _ => none).N = 8 ∧ (awS fun _ => none).size = 64 ∧ (awS fun _ => none).loose.length ≤ 9
  decide +kernel
theorem awP (A : Nat → Option Addr) : pageI (fun i => (awS A).now (2 + 1) i) = 6 ∧ ∀ i, i < 19 → (awS A).now (2 + 1) (25 + i) = 2 := by
  show pageI (fun i => (awS fun _ => none).now (2 + 1) i) = 6 ∧ ∀ i, i < 19 → (awS fun _ => none).now (2 + 1) (25 + i) = 2
  decide +kernel
theorem awR (A : Nat → Option Addr) : refuseI false 2 (awX A) ((newS 8 64).size - 45) ((4 : Nat) - (0 : Nat)) = 0 := by
  unfold refuseI
  rw [if_neg (by simp), if_neg (by simp), if_neg, if_neg, if_neg (by omega)]
  · rintro ⟨i, hi, h⟩
    exact h rfl
  · rintro ⟨i, hi, h⟩
    refine h ?_
    unfold pageB awX
    dsimp only
    split <;> omega
end Go.Proofs.Ytmikemijdglgaaa
/- the law's full and awake of chapter 11. -/
namespace Go.Proofs.Ytmikemijdglgaaa
open Go.RowKit
set_option linter.unusedVariables false
set_option linter.unusedSimpArgs false

theorem lfull_any (c n : Nat) (w : World) (hc : c < 256) (hn : n ≤ 1000000) :
    Calls Try.prog 25 #[.int .u8 c, .int .i64 n] w fun e w' =>
      e = .returned (.slice (some ⟨w.heap.size, 0, none⟩) n n) ∧ BRow w' w.heap.size n (fun _ => c) ∧ Below w.heap.size w w' := by
  have hmk := run_make_row' (P := Try.prog) 42 5 (.int .u8 0) 1 Try.underlying42 u8info rfl .i64 .i64 n (by omega) (by omega)
  have hr0 := Lib.hid (BRow.made w n (by omega))
  have hl0 := Lib.hid ((Below.refl w.heap.size w).alloc (Nat.le_refl _) (.cells (madeCells #[.int .u8 0] n) 5))
  go_enter Try.func25, Try.ntmps25
  go_wp2
  go_loopw [6] (fun i wr => ∃ k : Nat, k ≤ n ∧ i = .int .i64 k ∧ BRow wr w.heap.size n (fullF c k) ∧ Below w.heap.size w wr) (fun i _ => n - (intOf i).toNat)
  case atStart => exact ⟨0, Nat.zero_le _, rfl, hr0.out.congr fun i _ => rfl, hl0.out⟩
  case round =>
    obtain ⟨k, hk, rfl, hr, hl⟩ := hrel
    by_cases hlt : k < n
    · have hcl := hr.cell hlt
      have hf := hr.frozen k
      go_wp2
      go_roundw
      case rel =>
        refine ⟨k + 1, by omega, by go_num, (hr.set_ k c hc).congr fun i _ => ?_, hl.setCell (by simp) _⟩
        unfold fullF
        by_cases h : i = k
        · rw [if_pos h, if_pos (by omega)]
        · rw [if_neg h]
          by_cases h2 : i < k
          · rw [if_pos h2, if_pos (by omega)]
          · rw [if_neg h2, if_neg (by omega)]
      case measure => simp [intOf]; omega
    · obtain rfl : k = n := by omega
      go_wp2
      go_ret
      exact ⟨rfl, hr.congr fun i hi => if_pos hi, hl⟩

theorem lfull_1 (w : World) : Calls Try.prog 25 #[.int .u8 1, .int .i64 19] w fun e w' => e = .returned (.slice (some ⟨w.heap.size, 0, none⟩) 19 19) ∧ BRow w' w.heap.size 19 (fun _ => 1) ∧ Below w.heap.size w w' := lfull_any 1 19 w (by omega) (by omega)
theorem lfull_2 (w : World) : Calls Try.prog 25 #[.int .u8 2, .int .i64 19] w fun e w' => e = .returned (.slice (some ⟨w.heap.size, 0, none⟩) 19 19) ∧ BRow w' w.heap.size 19 (fun _ => 2) ∧ Below w.heap.size w w' := lfull_any 2 19 w (by omega) (by omega)
theorem awB_new [Spare] {w0 w : World} {base k : Nat} {M : DM} {S : DS} (h : On w0 base M S w) (hk : w.heap.size ≤ k) : AwB M k := by
  obtain ⟨a1, a2, a3, a4⟩ := h.d.away k (.inr hk)
  exact ⟨a1, a2, a3, a4⟩
theorem Dsk.apartR [Spare] {w : World} {base g : Nat} {M : DM} {S : DS} {cs : Array Value} {t : TypeId} (h : Dsk w base M S) (hb : w.heap[g]? = some (.cells cs t (0, 0))) (n1 : t ≠ 78) (n2 : t ≠ 42) (n3 : t ≠ 111) : g ≠ M.p ∧ g ≠ M.bf ∧ g ≠ M.bn ∧ M.vl.ownBlock ≠ some g := by
  obtain ⟨V, ⟨c, cv, _⟩, _⟩ := h.vf
  obtain ⟨U, ⟨c', cu, _⟩, _⟩ := h.vn
  obtain ⟨vs, _, l2, _⟩ := h.lo
  refine ⟨type_ne hb h.hp n1, type_ne hb cv n2, type_ne hb cu n2, fun e => ?_⟩
  rcases l2.2 with ⟨hv, _⟩ | ⟨g, cap, cur, hv, _, hh, _⟩
  · rw [hv] at e; cases e
  · rw [hv] at e
    simp only [Value.ownBlock, Option.some.injEq] at e
    subst e
    exact type_ne hb hh n3 rfl
theorem on_set [Spare] {w0 w : World} {base b i : Nat} {M : DM} {S : DS} {cs : Array Value} {v : Value} (h : On w0 base M S w) (hb : w.heap[b]? = some (.cells cs 85 (0, 0))) (hB : base ≤ b) : On w0 base M S (w.setCell ⟨b, i, none⟩ v) := by
  obtain ⟨a1, a2, a3, a4⟩ := h.d.apartR hb (by decide) (by decide) (by decide)
  have hs : ∀ q, q ≠ b → (w.setCell ⟨b, i, none⟩ v).heap[q]? = w.heap[q]? := fun q hq => Below.heap_setCell _ _ _ _ hq
  refine ⟨h.d.keep (hs _ (Ne.symm a1)) (hs _ (Ne.symm a2)) (hs _ (Ne.symm a3)) (fun k hk => hs k (fun e => a4 (by rw [hk, e]))) (keepB_store hb (by decide)) (by rw [size_set]; exact Nat.le_refl _), h.b.setCell (p := ⟨b, i, none⟩) hB _, h.z⟩
/-- What Read then hands back. -/
theorem read_aw {A : Nat → Option Addr} {w w' : World} {e : Ending} (h : ReadP (awS A) 2 4 1 w e w') : ∃ g c gb gc b o d, e = .returned (.tuple #[.slice (some ⟨g, 0, none⟩) 1 c, .int .i64 0]) ∧ w'.cell? ⟨g, 0, none⟩ = some (.slice (some ⟨gb, 0, none⟩) 2 gc) ∧
    w'.cell? ⟨gb, 2, none⟩ = some (.int .i64 6) ∧ w'.cell? ⟨gb, 3, none⟩ = some (.slice (some ⟨b, o, none⟩) 19 d) ∧ Bytes w' (some ⟨b, o, none⟩) 19 (fun _ => 2) ∧ Below w.heap.size w w' := by
  obtain ⟨⟨k, v, vs, X, hk, hch, hno, he, hown, hgr, hX⟩, hb⟩ := h
  have hk2 : k = 2 := by
    rcases Nat.lt_or_ge k 2 with h | h
    · match k, h with
      | 0, _ => exact absurd (awS_0 A) (hno (by omega))
      | 1, _ => exact absurd (awS_1 A) (hno (by omega))
    · rcases Nat.lt_or_ge 2 k with h2 | h2
      · exact absurd (hch 2 h2) (awS_2 A)
      · omega
  subst hk2
  rw [awG] at hown
  obtain ⟨g, c, rfl⟩ := ownsRow_succ hown
  have hl : vs.length = 1 := hown.1
  match vs, hl with
  | [u], _ =>
    obtain ⟨gb, gc, ls, rfl, hx, h1, h2, hrow, hcell⟩ := hgr 0 u [0, 1] rfl (by rw [awG]; rfl)
    have hls : ls.length = 2 := hrow.1
    match ls, hls with
    | [x0, x1], _ =>
      obtain ⟨hp, b, o, d, hv, _, _, _, hby⟩ := hrow.2 1 1 x1 rfl rfl
      have hc0 := World.ownsRow.cellAt (w := w') (base := w.heap.size) (e := 38) (size := 1) hown 0 (by decide)
      rw [show (awS A).size - 20 - 25 = 19 by rw [(awU A).2.2.1]] at hv hby
      refine ⟨g, c, gb, gc, b, o, d, he, hc0, ?_, ?_, hby.congr fun i hi => (awP A).2 i hi, hb⟩
      · have := hcell 2 (.int .i64 x1.1) rfl
        rw [hp, (awP A).1] at this
        exact this
      · have := hcell 3 x1.2 rfl
        rw [hv] at this
        exact this
theorem keep_conv19 {w w' : World} {g : Nat} {F : Nat → Nat} (h : BRow w g 19 F) (l : Below w.heap.size w w') : (convert 42 9 (.slice (some ⟨g, 0, none⟩) 19 19)).run Try.prog w' = .ok (.string (strF F 19)) w' := by
  have b := (h.below l h.lt).bytes (o := 0) (m := 19) (by omega)
  exact conv_any 19 (b.congr fun i _ => by rw [Nat.zero_add])
/-- Append of the two changes, of a new disk's log. -/
theorem app_aw [Spare] {w W w' : World} {b : Nat} {A : Nat → Option Addr} {M0 : DM} {e : Ending} (hO : On w w.heap.size M0 (newS 8 64) W) (hl : W.heap[b]? = some (.cells (lgCells M0.p 2 4 1 0 false) 85 (0, 0))) (hb : w.heap.size ≤ b) (h : AppP b 2 4 1 0 false 2 (awX A) w.heap.size M0 (newS 8 64) W e w') :
    e = .returned (.int .i64 0) ∧ (∃ v', On w w.heap.size { M0 with vl := v' } (awS A) w') ∧ w'.heap[b]? = some (.cells (lgCells M0.p 2 4 1 2 false) 85 (0, 0)) ∧ W.heap.size ≤ w'.heap.size := by
  rcases h with ⟨h0, _⟩ | ⟨_, w1, w8, I, l1, hw, he, hI⟩
  · exact absurd (awR A) h0
  · have hO1 := hO.below l1
    have hlb := (Array.getElem?_eq_some_iff.1 hl).1
    rcases hw with ⟨k, hk, _, hne, _⟩ | ⟨_, hr, hL⟩
    · exact absurd (awW_0 A k hk) hne
    · have hI0 : I = 0 := by
        cases hr
        exact awW_f A
      subst hI0
      obtain ⟨a1, a2, a3, a4⟩ := hO1.d.apartR ((l1.block b hlb).trans hl) (by decide) (by decide) (by decide)
      obtain ⟨v', hd, ht, _, _⟩ := hL
      have hl8 : w8.heap[b]? = some (.cells (lgCells M0.p 2 4 1 0 false) 85 (0, 0)) := (ht.block b (Nat.lt_of_lt_of_le hlb l1.size) a1 a2 a3 a4).trans ((l1.block b hlb).trans hl)
      have hO8 : On w w.heap.size { M0 with vl := v' } (awS A) w8 := ⟨hd, ht.on hO1, hO1.z⟩
      rcases hI with ⟨_, rfl⟩ | ⟨h, _⟩
      · refine ⟨he, ⟨v', on_set hO8 hl8 hb⟩, ?_, ?_⟩
        · show (w8.setCell ⟨b, 4, none⟩ (.int .i64 2)).heap[b]? = _
          simp [World.setCell, Array.getElem?_modify, hl8, lgCells]
        · rw [size_set]; exact Nat.le_trans l1.size ht.size
      · exact absurd rfl h
set_option maxRecDepth 100000 in
set_option maxHeartbeats 4000000 in
theorem lawake_gen [Spare] (w : World) (hE : ∀ g, w.heap.size ≤ g → Spare.ok g) : Calls Try.prog 14 #[] w fun e w' => e = .returned (.bool true) ∧ Below w.heap.size w w' := by
  go_enter Try.func14, Try.ntmps14
  go_wp2_with fail
  refine (new_ok 8 64 w (by omega) (by omega) hE).mono ?_
  rintro e w1 ⟨M0, rfl, d1, l1⟩
  have O1 := Lib.hid (show On w w.heap.size M0 (newS 8 64) w1 from ⟨d1, l1, Nat.le_refl _⟩)
  clear d1 l1
  go_wp2_with fail
  refine (lroom_any 64 w1 (by omega) (by omega)).mono ?_
  rintro e _ ⟨rfl, rfl⟩
  rw [show roomI 64 - 9 = 19 from rfl]
  go_wp2_with fail
  refine (start_any 2 4 1 w1 w.heap.size M0 (newS 8 64) O1.out.d (by omega) (by omega) (by omega)).mono ?_
  rintro e w2 ⟨⟨_, _, b, hb, rfl, hl⟩ | ⟨h0, _⟩, l2⟩
  rotate_left
  · exact absurd (by unfold plB newS; simp) h0
  have O2 := Lib.hid (O1.out.below l2)
  have AB := Lib.hid (awB_new O1.out hb)
  have HL := Lib.hid hl
  have hbl := (Array.getElem?_eq_some_iff.1 hl).1
  clear hl l2
  go_wp2_with (first
    | (go_at_call 25; (with_reducible refine (lfull_1 _).mono ?_); rintro e W1 ⟨rfl, r1, l1⟩)
    | (go_at_call 25; (with_reducible refine (lfull_2 _).mono ?_); rintro e W3 ⟨rfl, r3, l3⟩))
  obtain ⟨W4, hW4⟩ : ∃ W4 : World, W4 = W3.alloc (.cells #[.int .i64 5, .slice (some ⟨w2.heap.size, 0, none⟩) 19 19, .int .i64 6, .slice (some ⟨W1.heap.size, 0, none⟩) 19 19] 44) := ⟨_, rfl⟩
  have l4 : Below W3.heap.size W3 W4 := by rw [hW4]; exact (Below.refl _ _).alloc (Nat.le_refl _) _
  have O3 := O2.out.below (l1.trans (l3.mono l1.size))
  have O4 := O3.below l4
  have lw2 : Below w2.heap.size w2 W4 := (l1.trans (l3.mono l1.size)).trans (l4.mono (Nat.le_trans l1.size l3.size))
  have hl4 := (lw2.block b hbl).trans HL.out
  have R1 := (r1.below l3 r1.lt).below l4 (Nat.lt_of_lt_of_le r1.lt l3.size)
  have R3 := r3.below l4 r3.lt
  have hs1 := r1.lt
  have hs3 := r3.lt
  have hl1s := l1.size
  have hl3s := l3.size
  have hz4 : W4.heap.size = W3.heap.size + 1 := by rw [hW4]; simp
  have A1 := awB_new O2.out (Nat.le_refl w2.heap.size)
  have A2 := awB_new (O2.out.below l1) (Nat.le_refl W1.heap.size)
  have A3 := awB_new O3 (Nat.le_refl W3.heap.size)
  have hblk : W4.heap[W3.heap.size]? = some (.cells #[.int .i64 5, .slice (some ⟨w2.heap.size, 0, none⟩) 19 19, .int .i64 6, .slice (some ⟨W1.heap.size, 0, none⟩) 19 19] 44 (0, 0)) := by rw [hW4]; exact World.alloc_heap_new _ _
  have hG : Grp W4 M0 W3.heap.size 0 2 (awX fun i => if i = 0 then some ⟨w2.heap.size, 0, none⟩ else some ⟨W1.heap.size, 0, none⟩) := by
    refine ⟨by omega, fun i hi => ?_, A3, fun i hi => ?_⟩
    · match i, hi with
      | 0, _ => exact ⟨(R1.bytes (o := 0) (m := 19) (by omega)).congr fun j _ => rfl, Nat.le_refl _, (show (19 : Nat) ≤ 9223372036854775807 by omega), (fun e => by cases e), (fun q o e => by cases e; exact A1)⟩
      | 1, _ => exact ⟨(R3.bytes (o := 0) (m := 19) (by omega)).congr fun j _ => rfl, Nat.le_refl _, (show (19 : Nat) ≤ 9223372036854775807 by omega), (fun e => by cases e), (fun q o e => by cases e; exact A2)⟩
    · match i, hi with
      | 0, _ => exact ⟨by simp [World.cell?, hblk, awX], by simp [World.cell?, hblk, awX]⟩
      | 1, _ => exact ⟨by simp [World.cell?, hblk, awX], by simp [World.cell?, hblk, awX]⟩
  have KA := Lib.hid (append_any b 2 4 1 0 false W3.heap.size 0 2 2 (awX fun i => if i = 0 then some ⟨w2.heap.size, 0, none⟩ else some ⟨W1.heap.size, 0, none⟩) W4 w.heap.size M0 (newS 8 64) O4.d O4.le (by show 0 + 2 < 1000000; omega) hl4 AB.out (by omega) (by omega) (by omega) (by omega) (by omega) hG)
  have hbw : w.heap.size ≤ b := Nat.le_trans O1.out.le hb
  have H4 := Lib.hid (And.intro O4 hl4)
  have hbW := Nat.le_trans (Nat.le_of_lt hbl) lw2.size
  rw [← hW4]
  clear hG hblk A1 A2 A3 hz4 hl1s hl3s hs1 hs3 R1 R3 hl4 lw2 O3 O4 l4 r1 r3 l1 l3 hW4 hbl
  refine KA.out.mono ?_
  intro e w5 hap
  obtain ⟨rfl, ⟨v', O5⟩, hl5, hz5⟩ := app_aw H4.out.1 H4.out.2 hbw hap
  have H5 := Lib.hid (And.intro O5 hl5)
  have hb5 := (Array.getElem?_eq_some_iff.1 hl5).1
  clear hap O5 hl5 KA H4
  go_wp2_with fail
  refine (read_at w.heap.size 2 4 1 { M0 with vl := v' } (awS fun i => if i = 0 then some ⟨w2.heap.size, 0, none⟩ else some ⟨W1.heap.size, 0, none⟩) w5 H5.out.1.d (awU _).1 (by rw [(awU _).2.1]; unfold plB; omega) rfl).mono ?_
  intro e w6 hr
  obtain ⟨g, c, gb, gc, bb, o, d, rfl, c0, c2, c3, hby, l6⟩ := read_aw hr
  have hl6 := (l6.block b hb5).trans H5.out.2
  have hb6 := (Array.getElem?_eq_some_iff.1 hl6).1
  have HW6 := Lib.hid (H5.out.1.b.trans (l6.mono H5.out.1.le))
  have KS := Lib.hid (show ∀ W, Below w6.heap.size w6 W → W.cell? ⟨g, 0, none⟩ = some (.slice (some ⟨gb, 0, none⟩) 2 gc) ∧ W.cell? ⟨gb, 2, none⟩ = some (.int .i64 6) ∧ W.cell? ⟨gb, 3, none⟩ = some (.slice (some ⟨bb, o, none⟩) 19 d) ∧ (convert 42 9 (.slice (some ⟨bb, o, none⟩) 19 d)).run Try.prog W = .ok (.string (strF (fun _ => 2) 19)) W from fun W l =>
    ⟨(l.cell (cell_lt' c0)).trans c0, (l.cell (cell_lt' c2)).trans c2, (l.cell (cell_lt' c3)).trans c3, conv_any d (hby.below l (Nat.le_refl _))⟩)
  have KL := Lib.hid (show ∀ W, Below w6.heap.size w6 W → W.heap[b]? = some (.cells (lgCells M0.p 2 4 1 2 false) 85 (0, 0)) from fun W l => (l.block b hb6).trans hl6)
  clear hr c0 c2 c3 hby l6 hl6 H5 hb5 O1 O2 AB HL
  go_wp2
  go_region_held_law (fun W => W.cell? ⟨g, 0, none⟩ = some (.slice (some ⟨gb, 0, none⟩) 2 gc) ∧ W.cell? ⟨gb, 2, none⟩ = some (.int .i64 6) ∧ W.cell? ⟨gb, 3, none⟩ = some (.slice (some ⟨bb, o, none⟩) 19 d) ∧ (convert 42 9 (.slice (some ⟨bb, o, none⟩) 19 d)).run Try.prog W = .ok (.string (strF (fun _ => 2) 19)) W)
    (first | exact KS.out _ LL | exact KS.out _ LF | exact KS.out _ (Below.refl _ _).drew)
    (first
      | (go_at_call 25; (with_reducible refine (lfull_2 _).mono ?_); rintro e W7 ⟨rfl, r7, l7⟩; have LF : Below w6.heap.size w6 W7 := ((Below.refl w6.heap.size w6).drew).trans l7; have kd : (convert 42 9 (.slice (some ⟨w6.heap.size, 0, none⟩) 19 19)).run Try.prog W7 = .ok (.string (strF (fun _ => 2) 19)) W7 := keep_conv19 r7 (Below.refl _ _))
      | (go_at_call 20; (with_reducible refine (left_any b M0.p 2 4 1 2 false _ (KL.out _ LF) (by omega) (by omega) (by omega) (by omega)).mono ?_); rintro e W8 ⟨rfl, l8⟩; have LL : Below w6.heap.size w6 W8 := LF.trans (l8.mono LF.size)))
  go_wp2
  go_ret
  exact ⟨rfl, HW6.out.trans (LL.mono HW6.out.size)⟩
theorem lawake_any (w : World) : Calls Try.prog 14 #[] w fun e w' => e = .returned (.bool true) ∧ Below w.heap.size w w' := @lawake_gen ⟨fun _ => True⟩ w fun _ _ => trivial
end Go.Proofs.Ytmikemijdglgaaa
/- the law's group: puts as changes. -/
namespace Go.Proofs.Ytmikemijdglgaaa
open Go.RowKit
set_option linter.unusedVariables false
set_option linter.unusedSimpArgs false

/-- A put, as plain data. -/
structure PutD where
  page : Int
  b : Nat
  len : Int
def putN (room : Nat) (p : PutD) : Nat := if p.len < 0 ∨ 5000 < p.len then room else p.len.toNat
/-- A row of puts that can be read. -/
def Puts (w : World) (A : Option Addr) (n : Nat) (P : Nat → PutD) : Prop :=
  n ≤ 9223372036854775807 ∧ (∀ i, i < n → (P i).b < 256) ∧ (0 < n → ∃ b o, A = some ⟨b, o, none⟩ ∧ ∀ i, i < n → w.cell? ⟨b, o + i * 3, none⟩ = some (.int .i64 (P i).page) ∧ w.cell? ⟨b, o + i * 3 + 1, none⟩ = some (.int .u8 (P i).b) ∧ w.cell? ⟨b, o + i * 3 + 2, none⟩ = some (.int .i64 (P i).len))
theorem Puts.below {w w' : World} {A : Option Addr} {n : Nat} {P : Nat → PutD} (h : Puts w A n P) (l : Below w.heap.size w w') : Puts w' A n P :=
  ⟨h.1, h.2.1, fun hn => by
    obtain ⟨b, o, e, hc⟩ := h.2.2 hn
    refine ⟨b, o, e, fun i hi => ?_⟩
    obtain ⟨h1, h2, h3⟩ := hc i hi
    exact ⟨kept_l l (cell_lt' h1) h1, kept_l l (cell_lt' h2) h2, kept_l l (cell_lt' h3) h3⟩⟩
/-- Changes that group has made. -/
def PutR (n0 : Nat) (W : World) (room : Nat) (P : Nat → PutD) (ls : List (Int × Value)) : Prop :=
  ∀ (j : Nat) (x : Int × Value), ls[j]? = some x → x.1 = (P j).page ∧ ∃ b, x.2 = .slice (some ⟨b, 0, none⟩) (putN room (P j)) (putN room (P j)) ∧ n0 ≤ b ∧ BRow W b (putN room (P j)) (fun _ => (P j).b)
def GrpR (n0 : Nat) (W : World) (room : Nat) (P : Nat → PutD) (k : Nat) (v : Value) : Prop :=
  ∃ ls, ls.length = k ∧ W.ownsRow n0 44 2 v k (chCells ls) ∧ PutR n0 W room P ls
theorem PutR.keep {n0 room : Nat} {W W' : World} {P : Nat → PutD} {ls : List (Int × Value)} (h : PutR n0 W room P ls) (k : ∀ g n F, BRow W g n F → BRow W' g n F) : PutR n0 W' room P ls := fun j x hx => by
  obtain ⟨h1, b, h2, h3, h4⟩ := h j x hx
  exact ⟨h1, b, h2, h3, k _ _ _ h4⟩
theorem PutR.snoc {n0 room : Nat} {W : World} {P : Nat → PutD} {ls : List (Int × Value)} (h : PutR n0 W room P ls) {b : Nat} (hb : n0 ≤ b) (hr : BRow W b (putN room (P ls.length)) (fun _ => (P ls.length).b)) :
    PutR n0 W room P (ls ++ [((P ls.length).page, .slice (some ⟨b, 0, none⟩) (putN room (P ls.length)) (putN room (P ls.length)))]) := fun j x hx => by
  by_cases hj : j < ls.length
  · rw [List.getElem?_append_left hj] at hx
    exact h j x hx
  · rw [List.getElem?_append_right (by omega)] at hx
    match hq : j - ls.length with
    | 0 =>
      rw [hq] at hx
      simp at hx
      subst hx
      obtain rfl : j = ls.length := by omega
      exact ⟨rfl, b, rfl, hb, hr⟩
    | q + 1 => rw [hq] at hx; simp at hx
theorem brow_own {W W' : World} {base e size n g m : Nat} {v : Value} {xs : List Value} {F : Nat → Nat} (ho : W.ownsRow base e size v n xs) (he : e ≠ 5) (hg : W.grownBy W' v.ownBlock) (h : BRow W g m F) : BRow W' g m F := by
  refine h.other hg fun e' => ?_
  rcases ho.2 with ⟨rfl, _⟩ | ⟨g2, cap, cur, rfl, _, hgb, _⟩
  · simp [Value.ownBlock] at e'
  · obtain rfl : g = g2 := by simpa [Value.ownBlock] using e'
    obtain ⟨c, hb, _⟩ := h.1
    rw [hgb] at hb
    cases hb
    exact he rfl
/-- append of one change, as a step of a region that draws its order. -/
theorem step_append_ch {P : Program} {ops : Array Oper} {o : Oper} {a : Act} {w : World} {K : Act → World → Prop} {Q : Exit → Act → World → Prop} {E : Prop} (hw : Region.wanted o (yielded ops a.tmps) = true) (s x : Operand) (t : TypeId)
    (ho : o.op = .call { callee := .builtin .append, args := #[s, x], argTypes := #[t, t] }) (ht : P.underlying t = some (.slice 44))
    (hinfo : (P.info? 44).map (fun i => (i.zero, i.size, i.bytes)) = some (some (.agg #[.int .i64 0, .slice none 0 0]), 2, 32))
    (base : Nat) (v : Value) (n : Nat) (xs : List Value) (hs : a.eval s = v) (hown : w.ownsRow base 44 2 v n xs) (ad : Addr) (p q : Value) (hx : a.eval x = .slice (some ad) 1 1) (hp : p.oneCell' = true) (hq : q.oneCell' = true)
    (hnews : ∀ (j : Nat) (u : Value), [p, q][j]? = some u → w.cell? (ad.add j) = some u) (hsmall : n ≤ 1000000) (hbase : base ≤ w.heap.size)
    (h : ∀ v' w', Hid (w'.ownsRow base 44 2 v' (n + 1) (xs ++ [p, q])) → Hid (w.grownBy w' v.ownBlock) → K (a.put o.dst v') w') :
    if Region.wanted o (yielded ops a.tmps) = true then Oper.wp P o a w K Q else E := by
  rw [if_pos hw]
  obtain ⟨i0, hi0, hz0, hz1, hz2⟩ := infoPartsR hinfo
  obtain ⟨v', w', hr, ho1, hg1, _, _⟩ := run_append_own_at (P := P) w base t o.type 44 i0 (.agg #[.int .i64 0, .slice none 0 0]) 2 32 ht hi0 hz0 hz1 hz2 rfl (by omega) v n xs hown ad 1 1 [p, q] rfl hnews (by
    intro u hu
    simp only [List.mem_cons, List.not_mem_nil, or_false] at hu
    rcases hu with rfl | rfl
    · exact hp
    · exact hq) (by unfold maxLen; omega) (by omega) hbase
  unfold Oper.wp execOp
  simp only [ho, resolve, invoke, builtin, Sem.run_bind, Sem.run_pure, Result.andThen_ok, List.map_toArray, List.map_cons, List.map_nil, hs, hx, hr]
  exact h v' w' ho1 hg1
theorem own_belowR {W W' : World} {base e size n : Nat} {v : Value} {xs : List Value} (h : W.ownsRow base e size v n xs) (l : Below W.heap.size W W') : W'.ownsRow base e size v n xs := h.kept (grown_below (r := none) l) (by
  cases hv : v.ownBlock with
  | none => exact .inl rfl
  | some q => exact .inr (by simp))
theorem GrpR.push {n0 room k m g : Nat} {V w9 : World} {P : Nat → PutD} {v v2 : Value} {ls : List (Int × Value)} {pg : Int} (hls : ls.length = k) (hown : V.ownsRow n0 44 2 v k (chCells ls)) (hpr : PutR n0 V room P ls) (hg : n0 ≤ g) (hm : m = putN room (P k)) (hpg : pg = (P k).page)
    (hrow : BRow V g m (fun _ => (P k).b)) (hown' : w9.ownsRow n0 44 2 v2 (k + 1) (chCells ls ++ [.int .i64 pg, .slice (some ⟨g, 0, none⟩) m m])) (hgr : V.grownBy w9 v.ownBlock) : GrpR n0 w9 room P (k + 1) v2 := by
  subst hls hm hpg
  refine ⟨ls ++ [((P ls.length).page, .slice (some ⟨g, 0, none⟩) (putN room (P ls.length)) (putN room (P ls.length)))], by simp, by rw [chCells_snoc]; exact hown', ?_⟩
  exact PutR.snoc (hpr.keep fun _ _ _ h => brow_own hown (by decide) hgr h) hg (brow_own hown (by decide) hgr hrow)
set_option maxRecDepth 100000 in
set_option maxHeartbeats 8000000 in
theorem group_any (A : Option Addr) (n c : Nat) (P : Nat → PutD) (room : Nat) (w : World) (hn : n ≤ 1000) (hr : room ≤ 100000) (hP : Puts w A n P) :
    Calls Try.prog 16 #[.slice A n c, .int .i64 (room : Nat)] w fun e w' => (∃ v, e = .returned v ∧ GrpR w.heap.size w' room P n v) ∧ Below w.heap.size w w' := by
  have HP := Lib.hid hP
  clear hP
  obtain ⟨i0, hi0, hz0, hz1, hz2⟩ := infoPartsR infoCh
  go_enter Try.func16, Try.ntmps16
  go_wp2
  go_loopw [5, 6] (fun u i wr => ∃ k : Nat, k ≤ n ∧ i = .int .i64 (k : Nat) ∧ GrpR w.heap.size wr room P k u ∧ Below w.heap.size w wr) (fun u i _ => n - (intOf i).toNat)
  case atStart => exact ⟨0, Nat.zero_le _, rfl, ⟨[], rfl, World.ownsRow_nil _ _ _ _, fun j x hx => by simp at hx⟩, Below.refl _ _⟩
  case round =>
    obtain ⟨k, hk, rfl, ⟨ls, hls, hown, hpr⟩, hb⟩ := hrel
    obtain ⟨w0r, hw0r⟩ : ∃ x, x = wr := ⟨_, rfl⟩
    subst hw0r
    by_cases hlt : k < n
    · obtain ⟨bb, o, rfl, hc⟩ := HP.out.2.2 (by omega)
      have hP2 := HP.out.below hb
      obtain ⟨bb', o', e', hc'⟩ := hP2.2.2 (by omega)
      cases e'
      obtain ⟨c0, c1, c2⟩ := hc' k hlt
      rcases hPk : P k with ⟨pg, b8, ln⟩
      have hb8 := HP.out.2.1 k hlt
      rw [hPk] at c0 c1 c2 hb8
      dsimp only at c0 c1 c2 hb8
      obtain ⟨A5, n5, rfl⟩ := own_sl hown
      have HPk := Lib.hid hPk
      have HLs := Lib.hid hls
      have HO := Lib.hid hown
      have HR := Lib.hid hpr
      have HB := Lib.hid hb
      have hwr := hb.size
      have hbb : bb < w.heap.size := cell_lt' (hc k hlt).1
      clear hPk hls hown hpr hb hc hc' hP2
      have KS := Lib.hid (show ∀ W, Below w.heap.size w0r W → W.cell? ⟨bb, o + k * 3, none⟩ = some (.int .i64 pg) ∧ W.cell? ⟨bb, o + k * 3 + 1, none⟩ = some (.int .u8 (b8 : Nat)) from fun W l => ⟨(l.cell (p := ⟨bb, o + k * 3, none⟩) hbb).trans c0, (l.cell (p := ⟨bb, o + k * 3 + 1, none⟩) hbb).trans c1⟩)
      by_cases h1 : ln < 0
      · go_wp2
        go_region_held_law (fun W => W.cell? ⟨bb, o + k * 3, none⟩ = some (.int .i64 pg) ∧ W.cell? ⟨bb, o + k * 3 + 1, none⟩ = some (.int .u8 (b8 : Nat)))
          (first | exact KS.out _ LW.out | exact KS.out _ ((LV.out.alloc LV.out.size _).mono hwr) | exact KS.out _ (LV.out.mono hwr) | exact KS.out _ (Below.refl _ _).drew)
          (first
          | (go_at_call 25; (with_reducible refine (lfull_any b8 room _ hb8 (by omega)).mono ?_); rintro e W1 ⟨rfl, r1, l1⟩; have LV : Hid (Below w0r.heap.size w0r W1) := Lib.hid (((Below.refl w0r.heap.size w0r).drew).trans l1); have HRV := Lib.hid r1; clear r1 l1)
          | (refine step_append_ch (by rfl) _ _ 38 rfl Try.underlying38 infoCh w.heap.size (.slice A5 k n5) k (chCells ls) rfl (own_belowR HO.out (LV.out.alloc LV.out.size _)) ⟨W1.heap.size, 0, none⟩ (.int .i64 pg) (.slice (some ⟨w0r.heap.size, 0, none⟩) room room) rfl rfl rfl (cells_newR2 _ _ _ _) (by omega) (Nat.le_trans hwr (Nat.le_trans LV.out.size (by simp))) ?_
             intro v2 w9 HO2 HG2
             have LW : Hid (Below w.heap.size w0r w9) := Lib.hid (((LV.out.alloc LV.out.size _).mono hwr).grown HG2.out (Nat.le_trans hwr (Nat.le_trans LV.out.size (by simp))) (fun j hj => (HO.out.lt j hj).1))))
        go_wp2
        go_roundw
        case rel =>
          exact ⟨k + 1, by omega, by go_num, GrpR.push HLs.out (own_belowR HO.out (LV.out.alloc LV.out.size _)) (HR.out.keep fun g m F h => h.below (LV.out.alloc LV.out.size _) h.lt) hwr (by rw [HPk.out]; unfold putN; rw [if_pos (.inl h1)]) (by rw [HPk.out]) (by rw [HPk.out]; exact BRow.alloc HRV.out _) HO2.out HG2.out, HB.out.trans LW.out⟩
        case measure => simp [intOf]; omega
      by_cases h2 : 5000 < ln
      · go_wp2
        go_region_held_law (fun W => W.cell? ⟨bb, o + k * 3, none⟩ = some (.int .i64 pg) ∧ W.cell? ⟨bb, o + k * 3 + 1, none⟩ = some (.int .u8 (b8 : Nat)))
          (first | exact KS.out _ LW.out | exact KS.out _ ((LV.out.alloc LV.out.size _).mono hwr) | exact KS.out _ (LV.out.mono hwr) | exact KS.out _ (Below.refl _ _).drew)
          (first
          | (go_at_call 25; (with_reducible refine (lfull_any b8 room _ hb8 (by omega)).mono ?_); rintro e W1 ⟨rfl, r1, l1⟩; have LV : Hid (Below w0r.heap.size w0r W1) := Lib.hid (((Below.refl w0r.heap.size w0r).drew).trans l1); have HRV := Lib.hid r1; clear r1 l1)
          | (refine step_append_ch (by rfl) _ _ 38 rfl Try.underlying38 infoCh w.heap.size (.slice A5 k n5) k (chCells ls) rfl (own_belowR HO.out (LV.out.alloc LV.out.size _)) ⟨W1.heap.size, 0, none⟩ (.int .i64 pg) (.slice (some ⟨w0r.heap.size, 0, none⟩) room room) rfl rfl rfl (cells_newR2 _ _ _ _) (by omega) (Nat.le_trans hwr (Nat.le_trans LV.out.size (by simp))) ?_
             intro v2 w9 HO2 HG2
             have LW : Hid (Below w.heap.size w0r w9) := Lib.hid (((LV.out.alloc LV.out.size _).mono hwr).grown HG2.out (Nat.le_trans hwr (Nat.le_trans LV.out.size (by simp))) (fun j hj => (HO.out.lt j hj).1))))
        go_wp2
        go_roundw
        case rel =>
          exact ⟨k + 1, by omega, by go_num, GrpR.push HLs.out (own_belowR HO.out (LV.out.alloc LV.out.size _)) (HR.out.keep fun g m F h => h.below (LV.out.alloc LV.out.size _) h.lt) hwr (by rw [HPk.out]; unfold putN; rw [if_pos (.inr h2)]) (by rw [HPk.out]) (by rw [HPk.out]; exact BRow.alloc HRV.out _) HO2.out HG2.out, HB.out.trans LW.out⟩
        case measure => simp [intOf]; omega
      obtain ⟨l, rfl⟩ := Int.eq_ofNat_of_zero_le (show 0 ≤ ln by omega)
      · go_wp2
        go_region_held_law (fun W => W.cell? ⟨bb, o + k * 3, none⟩ = some (.int .i64 pg) ∧ W.cell? ⟨bb, o + k * 3 + 1, none⟩ = some (.int .u8 (b8 : Nat)))
          (first | exact KS.out _ LW.out | exact KS.out _ ((LV.out.alloc LV.out.size _).mono hwr) | exact KS.out _ (LV.out.mono hwr) | exact KS.out _ (Below.refl _ _).drew)
          (first
          | (go_at_call 25; (with_reducible refine (lfull_any b8 l _ hb8 (by omega)).mono ?_); rintro e W1 ⟨rfl, r1, l1⟩; have LV : Hid (Below w0r.heap.size w0r W1) := Lib.hid (((Below.refl w0r.heap.size w0r).drew).trans l1); have HRV := Lib.hid r1; clear r1 l1)
          | (refine step_append_ch (by rfl) _ _ 38 rfl Try.underlying38 infoCh w.heap.size (.slice A5 k n5) k (chCells ls) rfl (own_belowR HO.out (LV.out.alloc LV.out.size _)) ⟨W1.heap.size, 0, none⟩ (.int .i64 pg) (.slice (some ⟨w0r.heap.size, 0, none⟩) l l) rfl rfl rfl (cells_newR2 _ _ _ _) (by omega) (Nat.le_trans hwr (Nat.le_trans LV.out.size (by simp))) ?_
             intro v2 w9 HO2 HG2
             have LW : Hid (Below w.heap.size w0r w9) := Lib.hid (((LV.out.alloc LV.out.size _).mono hwr).grown HG2.out (Nat.le_trans hwr (Nat.le_trans LV.out.size (by simp))) (fun j hj => (HO.out.lt j hj).1))))
        go_wp2
        go_roundw
        case rel =>
          exact ⟨k + 1, by omega, by go_num, GrpR.push HLs.out (own_belowR HO.out (LV.out.alloc LV.out.size _)) (HR.out.keep fun g m F h => h.below (LV.out.alloc LV.out.size _) h.lt) hwr (by rw [HPk.out]; show l = if ((l : Int) < 0 ∨ 5000 < (l : Int)) then room else (l : Int).toNat; rw [if_neg (by omega)]; simp) (by rw [HPk.out]) (by rw [HPk.out]; exact BRow.alloc HRV.out _) HO2.out HG2.out, HB.out.trans LW.out⟩
        case measure => simp [intOf]; omega
    · obtain rfl : k = n := by omega
      have HR := Lib.hid (show GrpR w.heap.size w0r room P k u5 from ⟨ls, hls, hown, hpr⟩)
      have HB := Lib.hid hb
      clear hown hpr hb hls
      go_wp2
      go_ret
      exact ⟨⟨_, rfl, HR.out⟩, HB.out⟩
end Go.Proofs.Ytmikemijdglgaaa
/- the law's light: rows of rows of puts. -/
namespace Go.Proofs.Ytmikemijdglgaaa
open Go.RowKit
set_option linter.unusedVariables false
set_option linter.unusedSimpArgs false

/-- A slice of puts, as plain data. -/
structure SlD where
  A : Option Addr
  n : Nat
  c : Nat
/-- A row of slices that can be read. -/
def RowG (w : World) (A : Option Addr) (n : Nat) (G : Nat → SlD) : Prop :=
  n ≤ 9223372036854775807 ∧ (∀ i, i < n → (G i).n ≤ 9223372036854775807) ∧ (0 < n → ∃ b o, A = some ⟨b, o, none⟩ ∧ ∀ i, i < n → w.cell? ⟨b, o + i, none⟩ = some (.slice (G i).A (G i).n (G i).c))
theorem RowG.below {w w' : World} {A : Option Addr} {n : Nat} {G : Nat → SlD} (h : RowG w A n G) (l : Below w.heap.size w w') : RowG w' A n G :=
  ⟨h.1, h.2.1, fun hn => by
    obtain ⟨b, o, e, hc⟩ := h.2.2 hn
    exact ⟨b, o, e, fun i hi => kept_l l (cell_lt' (hc i hi)) (hc i hi)⟩⟩
def lightGB (n : Nat) (G : Nat → SlD) : Bool := decide (n ≤ 8 ∧ ∀ i, i < n → (G i).n ≤ 8)
set_option maxRecDepth 100000 in
set_option maxHeartbeats 4000000 in
theorem light_any (more first count epoch : Int) (A : Option Addr) (n c : Nat) (G : Nat → SlD) (w : World) (hG : RowG w A n G) :
    Calls Try.prog 9 #[.agg #[.int .u8 more, .int .i64 first, .int .i64 count, .int .i64 epoch, .slice A n c]] w fun e w' => e = .returned (.bool (lightGB n G)) ∧ Below w.heap.size w w' := by
  obtain ⟨W0, hW0⟩ : ∃ W0 : World, W0 = w.alloc (.cells #[.int .u8 more, .int .i64 first, .int .i64 count, .int .i64 epoch, .slice A n c] 24) := ⟨_, rfl⟩
  have l0 : Below w.heap.size w W0 := by rw [hW0]; exact (Below.refl _ _).alloc (Nat.le_refl _) _
  have c4 : W0.cell? ⟨w.heap.size, 4, none⟩ = some (.slice A n c) := by rw [hW0]; simp
  have hG0 := hG.below l0
  have hn := hG.1
  have HG := Lib.hid hG0
  have L0 := Lib.hid l0
  have H0 := Lib.hid hW0
  clear hG hG0 l0 hW0
  by_cases h8 : 8 < n
  · have hB : lightGB n G = false := decide_eq_false fun h => by omega
    rw [hB]
    have h8I : (8 : Int) < (n : Int) := by omega
    go_enter Try.func9, Try.ntmps9
    go_upto_region 1 with (fail)
    rw [← H0.out]
    go_wp2
    go_ret
    exact ⟨rfl, L0.out⟩
  · have h8I : ¬ (8 : Int) < (n : Int) := by omega
    go_enter Try.func9, Try.ntmps9
    go_upto_region 1 with (fail)
    rw [← H0.out]
    go_wp2
    go_loopw [3] (fun i wr => ∃ k : Nat, k ≤ n ∧ i = .int .i64 (k : Nat) ∧ (∀ j, j < k → (G j).n ≤ 8) ∧ wr = W0) (fun i _ => n - (intOf i).toNat)
    case atStart => exact ⟨0, Nat.zero_le _, rfl, fun j hj => absurd hj (by omega), rfl⟩
    case round =>
      obtain ⟨k, hk, rfl, hall, rfl⟩ := hrel
      by_cases hlt : k < n
      · obtain ⟨bb, o, rfl, hc⟩ := HG.out.2.2 (by omega)
        have ck := hc k hlt
        have hgn := HG.out.2.1 k hlt
        rcases hGk : G k with ⟨Ak, nk, dk⟩
        rw [hGk] at ck hgn
        dsimp only at ck hgn
        have HGk := Lib.hid hGk
        have HAll := Lib.hid hall
        clear hc hGk hall
        by_cases hk8 : 8 < nk
        · have hB : lightGB n G = false := decide_eq_false fun h => by have := h.2 k hlt; rw [HGk.out] at this; dsimp only at this; omega
          have HBB := Lib.hid hB
          clear hB
          have hkI : (8 : Int) < (nk : Int) := by omega
          go_wp2
          go_ret
          exact ⟨by rw [HBB.out]; rfl, L0.out⟩
        · have hkI : ¬ (8 : Int) < (nk : Int) := by omega
          go_wp2
          go_roundw
          case rel =>
            refine ⟨k + 1, by omega, by go_num, fun j hj => ?_, trivial⟩
            rcases Nat.lt_or_ge j k with h | h
            · exact HAll.out j h
            · obtain rfl : j = k := by omega
              rw [HGk.out]; show nk ≤ 8; omega
          case measure => simp [intOf]; omega
      · obtain rfl : k = n := by omega
        have hB : lightGB k G = true := decide_eq_true ⟨by omega, hall⟩
        have HBB := Lib.hid hB
        clear hall hB
        go_wp2
        go_ret
        exact ⟨by rw [HBB.out]; rfl, L0.out⟩
end Go.Proofs.Ytmikemijdglgaaa
/- Puts, rows of puts, rows of rows of puts, ints that came in as arguments: from the form's reading to what the walks ask. -/
namespace Go.Proofs.Ytmikemijdglgaaa
open Go.Joins Go.Deep Go.ChangeShapes Go.WideShapes Go.ChangeAt Go.RowKit
set_option linter.unusedVariables false

/-- Rows of puts: G i is the i-th row, Q i its puts. -/
def PutsG (w : World) (A : Option Addr) (n : Nat) (G : Nat → SlD) (Q : Nat → Nat → PutD) : Prop :=
  RowG w A n G ∧ ∀ i, i < n → Puts w (G i).A (G i).n (Q i)
theorem PutsG.below {w w' : World} {A : Option Addr} {n : Nat} {G : Nat → SlD} {Q : Nat → Nat → PutD} (h : PutsG w A n G Q) (l : Below w.heap.size w w') : PutsG w' A n G Q :=
  ⟨h.1.below l, fun i hi => (h.2 i hi).below l⟩
section
variable {H : Type} {enc : TypeId × Value → H} {w : World} {base : Nat} {held : Bool}
theorem lcells_int : Try.prog.cellsOf 3 = 1 := by kernel_rfl
theorem lcells_u8 : Try.prog.cellsOf 5 = 1 := by kernel_rfl
theorem lcells_put : Try.prog.cellsOf 94 = 3 := by kernel_rfl
theorem lcells_puts : Try.prog.cellsOf 40 = 1 := by kernel_rfl
theorem addr_add2 (b off k l : Nat) : ((⟨b, off, none⟩ : Addr).add k).add l = ⟨b, off + k + l, none⟩ := by
  unfold Addr.add
  split
  · rename_i q; subst q; split
    · rename_i q; subst q; rfl
    · rfl
  · split
    · rename_i q; subst q; rfl
    · rfl
theorem list_three {α : Type} : ∀ (l : List α), l.length = 3 → ∃ a b c, l = [a, b, c]
  | [a, b, c], _ => ⟨a, b, c, rfl⟩
def put0 : PutD := ⟨0, 0, 0⟩
def sl0 : SlD := ⟨none, 0, 0⟩
theorem put_at {fuel b o : Nat} {cs : List Value} {x : DataW H × List MemPlace} (h : DataW.trod enc Try.prog w base (fun _ => true) held fuel 94 cs = some x) (hl0 : cs.length = 3)
    (hc : ∀ j, j < 3 → w.cell? ⟨b, o + j, none⟩ = cs[j]?) : ∃ p : PutD, p.b < 256 ∧ w.cell? ⟨b, o, none⟩ = some (.int .i64 p.page) ∧ w.cell? ⟨b, o + 1, none⟩ = some (.int .u8 (p.b : Nat)) ∧ w.cell? ⟨b, o + 2, none⟩ = some (.int .i64 p.len) := by
  obtain ⟨xs, n, _, _, hl, hlen, hf⟩ := DataW.trod_struct Try.underlying94 h
  clear hl
  have hx3 : xs.length = 3 := hlen
  clear hlen
  obtain ⟨c0, c1, c2, rfl⟩ := list_three cs hl0
  obtain ⟨y0, y1, y2, rfl⟩ := list_three xs hx3
  have t0 : DataW.trod enc Try.prog w base (fun _ => true) held n 3 [c0] = some y0 := by simpa [lcells_int] using hf 0 _ rfl
  have t1 : DataW.trod enc Try.prog w base (fun _ => true) held n 5 [c1] = some y1 := by simpa [lcells_u8] using hf 1 _ rfl
  have t2 : DataW.trod enc Try.prog w base (fun _ => true) held n 3 [c2] = some y2 := by simpa [lcells_int] using hf 2 _ rfl
  obtain ⟨z0, e0, _, w0⟩ := DataW.trod_int Try.underlying3 t0
  obtain ⟨z1, e1, _, w1⟩ := DataW.trod_int Try.underlying5 t1
  obtain ⟨z2, e2, _, w2⟩ := DataW.trod_int Try.underlying3 t2
  simp only [List.cons.injEq, and_true] at e0 e1 e2
  subst e0 e1 e2
  have b1 := bounds_u8 w1
  refine ⟨⟨z0, z1.toNat, z2⟩, ?_, hc 0 (by omega), ?_, hc 2 (by omega)⟩
  · show z1.toNat < 256
    omega
  · show w.cell? ⟨b, o + 1, none⟩ = some (.int .u8 ((z1.toNat : Nat) : Int))
    rw [Int.toNat_of_nonneg (by omega)]
    exact hc 1 (by omega)
theorem puts_in {fuel : Nat} {v : Value} {x : DataW H × List MemPlace} (h : DataW.trod enc Try.prog w base (fun _ => true) held fuel 40 [v] = some x) :
    ∃ A n c P, v = .slice A n c ∧ Puts w A n P := by
  rcases open_slice Try.underlying40 h with ⟨hcs, _⟩ | ⟨a, len, cap, m, n, D, Pl, hcs, hb, hl, hm, hmm, hx, hi⟩
  · simp only [List.cons.injEq, and_true] at hcs
    exact ⟨none, 0, 0, fun _ => put0, hcs, by omega, fun i hi => absurd hi (by omega), fun hn => absurd hn (by omega)⟩
  · simp only [List.cons.injEq, and_true] at hcs
    unfold maxLen at hm
    rw [lcells_put] at hi
    have hm2 : m = cap := by simpa using hmm
    subst hm2
    have hall : 0 < m → ∃ b o, a = ⟨b, o, none⟩ ∧ ∀ i, i < m → ∃ p : PutD, p.b < 256 ∧ w.cell? ⟨b, o + i * 3, none⟩ = some (.int .i64 p.page) ∧ w.cell? ⟨b, o + i * 3 + 1, none⟩ = some (.int .u8 (p.b : Nat)) ∧ w.cell? ⟨b, o + i * 3 + 2, none⟩ = some (.int .i64 p.len) := fun h0 => by
      obtain ⟨b, off, spot⟩ := a
      have hspot : spot = none := by
        obtain ⟨cs', hc, _⟩ := hi 0 h0
        obtain ⟨_, hcl, hat⟩ := World.cells?_some hc
        have h0 := hat 0 (by omega)
        have hv : cs'[0]? = some (cs'[0]'(by omega)) := List.getElem?_eq_getElem (by omega)
        rw [hv] at h0
        simpa [Addr.add] using World.cell?_spot h0
      subst hspot
      refine ⟨b, off, rfl, fun i him => ?_⟩
      obtain ⟨cs', hc, ht⟩ := hi i him
      obtain ⟨_, hcl, hat⟩ := World.cells?_some hc
      refine put_at ht hcl fun j hj => ?_
      have hj := hat j hj
      rw [← hj, addr_add2]
    rcases Nat.eq_zero_or_pos m with h0 | h0
    · subst h0
      exact ⟨some a, len, 0, fun _ => put0, hcs, by omega, fun i hi => absurd hi (by omega), fun hn => absurd hn (by omega)⟩
    · obtain ⟨b, o, rfl, hX⟩ := hall h0
      obtain ⟨X, hX⟩ := Classical.axiomOfChoice (fun i => show ∃ p : PutD, i < m → p.b < 256 ∧ w.cell? ⟨b, o + i * 3, none⟩ = some (.int .i64 p.page) ∧ w.cell? ⟨b, o + i * 3 + 1, none⟩ = some (.int .u8 (p.b : Nat)) ∧ w.cell? ⟨b, o + i * 3 + 2, none⟩ = some (.int .i64 p.len) from by
        by_cases q : i < m
        · obtain ⟨X, hX⟩ := hX i q
          exact ⟨X, fun _ => hX⟩
        · exact ⟨put0, fun z => absurd z q⟩)
      exact ⟨some ⟨b, o, none⟩, len, m, X, hcs, by omega, fun i hi => (hX i (by omega)).1, fun _ => ⟨b, o, rfl, fun i hi => (hX i (by omega)).2⟩⟩
theorem groups_in {fuel : Nat} {v : Value} {x : DataW H × List MemPlace} (h : DataW.trod enc Try.prog w base (fun _ => true) held fuel 22 [v] = some x) :
    ∃ A n c G Q, v = .slice A n c ∧ PutsG w A n G Q := by
  rcases open_slice Try.underlying22 h with ⟨hcs, _⟩ | ⟨a, len, cap, m, n, D, Pl, hcs, hb, hl, hm, hmm, hx, hi⟩
  · simp only [List.cons.injEq, and_true] at hcs
    exact ⟨none, 0, 0, fun _ => sl0, fun _ _ => put0, hcs, ⟨by omega, fun i hi => absurd hi (by omega), fun hn => absurd hn (by omega)⟩, fun i hi => absurd hi (by omega)⟩
  · simp only [List.cons.injEq, and_true] at hcs
    unfold maxLen at hm
    rw [lcells_puts] at hi
    have hm2 : m = cap := by simpa using hmm
    subst hm2
    have hall : 0 < m → ∃ b o, a = ⟨b, o, none⟩ ∧ ∀ i, i < m → ∃ p : SlD × (Nat → PutD), p.1.n ≤ 9223372036854775807 ∧ Puts w p.1.A p.1.n p.2 ∧ w.cell? ⟨b, o + i, none⟩ = some (.slice p.1.A p.1.n p.1.c) := fun h0 => by
      obtain ⟨b, off, spot⟩ := a
      have hspot : spot = none := by
        obtain ⟨cs', hc, _⟩ := hi 0 h0
        obtain ⟨_, hcl, hat⟩ := World.cells?_some hc
        have h0 := hat 0 (by omega)
        have hv : cs'[0]? = some (cs'[0]'(by omega)) := List.getElem?_eq_getElem (by omega)
        rw [hv] at h0
        simpa [Addr.add] using World.cell?_spot h0
      subst hspot
      refine ⟨b, off, rfl, fun i him => ?_⟩
      obtain ⟨cs', hc, ht⟩ := hi i him
      obtain ⟨_, hcl, hat⟩ := World.cells?_some hc
      match cs', hcl with
      | [u], _ =>
        obtain ⟨A, k, c, P, rfl, hP⟩ := puts_in ht
        have hj := hat 0 (by omega)
        rw [addr_add2] at hj
        exact ⟨(⟨A, k, c⟩, P), hP.1, hP, by simpa using hj⟩
    rcases Nat.eq_zero_or_pos m with h0 | h0
    · subst h0
      exact ⟨some a, len, 0, fun _ => sl0, fun _ _ => put0, hcs, ⟨by omega, fun i hi => absurd hi (by omega), fun hn => absurd hn (by omega)⟩, fun i hi => absurd hi (by omega)⟩
    · obtain ⟨b, o, rfl, hX⟩ := hall h0
      obtain ⟨X, hX⟩ := Classical.axiomOfChoice (fun i => show ∃ p : SlD × (Nat → PutD), i < m → p.1.n ≤ 9223372036854775807 ∧ Puts w p.1.A p.1.n p.2 ∧ w.cell? ⟨b, o + i, none⟩ = some (.slice p.1.A p.1.n p.1.c) from by
        by_cases q : i < m
        · obtain ⟨X, hX⟩ := hX i q
          exact ⟨X, fun _ => hX⟩
        · exact ⟨(sl0, fun _ => put0), fun z => absurd z q⟩)
      exact ⟨some ⟨b, o, none⟩, len, m, fun i => (X i).1, fun i => (X i).2, hcs, ⟨by omega, fun i hi => (hX i (by omega)).1, fun _ => ⟨b, o, rfl, fun i hi => (hX i (by omega)).2.2⟩⟩, fun i hi => (hX i (by omega)).2.1⟩
theorem lcells_ints : Try.prog.cellsOf 67 = 1 := by kernel_rfl
theorem lints_in {fuel : Nat} {v : Value} {x : DataW H × List MemPlace} (h : DataW.trod enc Try.prog w base (fun _ => true) held fuel 67 [v] = some x) :
    ∃ A n c fa, v = .slice A n c ∧ Ints w A n fa ∧ (A = none → n = 0 ∧ c = 0) := by
  rcases open_ints Try.underlying67 Try.underlying3 lcells_int h with ⟨hcs, _⟩ | ⟨x, l, k, zs, hcs, _, hl, hm, hz, _, hcell, hwz⟩
  · simp only [List.cons.injEq, and_true] at hcs
    exact ⟨none, 0, 0, fun _ => 0, hcs, ⟨by omega, fun i hi => absurd hi (by omega), fun hn => absurd hn (by omega)⟩, fun _ => ⟨rfl, rfl⟩⟩
  · simp only [List.cons.injEq, and_true] at hcs
    unfold maxLen at hm
    have hzl : zs.length = k := by simpa using hz
    refine ⟨some x, l, k, fun i => zs.getD i 0, hcs, ⟨by omega, fun i hi => ?_, fun hn => ?_⟩, fun e => by cases e⟩
    · have hb := bounds_i64 (hwz (zs.getD i 0) (by
        have hi2 : i < zs.length := by omega
        rw [List.getD_eq_getElem?_getD, List.getElem?_eq_getElem hi2]
        exact List.getElem_mem hi2))
      exact hb
    · obtain ⟨b, off, spot⟩ := x
      have h0 := hcell 0 (by omega)
      have hspot : spot = none := by simpa [Addr.add] using World.cell?_spot h0
      subst hspot
      refine ⟨b, off, rfl, fun i hi => ?_⟩
      have h1 := hcell i (by omega)
      rw [← h1]
      unfold Addr.add
      split
      · rename_i q; subst q; rfl
      · rfl
end
end Go.Proofs.Ytmikemijdglgaaa
/- A row of LogReads' slots that came in as an argument. -/
namespace Go.Proofs.Ytmikemijdglgaaa
open Go.Joins Go.Deep Go.ChangeShapes Go.WideShapes Go.ChangeAt Go.RowKit
set_option linter.unusedVariables false

/-- A slot, as plain data. -/
structure SltD where
  ep : Int
  at_ : Int
  page : Int
  last : Nat
  A : Option Addr
  m : Nat
  c : Nat
  F : Nat → Nat
  raw : Bool
def slt0 : SltD := ⟨0, 0, 0, 0, none, 0, 0, fun _ => 0, false⟩
def In64L (x : Int) : Prop := -9223372036854775808 ≤ x ∧ x ≤ 9223372036854775807
structure SltOk (w : World) (x : SltD) : Prop where
  e : In64L x.ep
  a : In64L x.at_
  p : In64L x.page
  l : x.last < 256
  b : Bytes w x.A x.m x.F
  n : x.A = none → x.c = 0
  mc : x.m ≤ x.c
  cc : x.c ≤ 9223372036854775807
structure SltAt (w : World) (b o : Nat) (x : SltD) : Prop where
  c0 : w.cell? ⟨b, o, none⟩ = some (.int .i64 x.ep)
  c1 : w.cell? ⟨b, o + 1, none⟩ = some (.int .i64 x.at_)
  c2 : w.cell? ⟨b, o + 2, none⟩ = some (.int .i64 x.page)
  c3 : w.cell? ⟨b, o + 3, none⟩ = some (.int .u8 (x.last : Nat))
  c4 : w.cell? ⟨b, o + 4, none⟩ = some (.slice x.A x.m x.c)
  c5 : w.cell? ⟨b, o + 5, none⟩ = some (.bool x.raw)
def Slts (w : World) (A : Option Addr) (n : Nat) (X : Nat → SltD) : Prop :=
  n ≤ 9223372036854775807 ∧ (∀ i, i < n → SltOk w (X i)) ∧ (0 < n → ∃ b o, A = some ⟨b, o, none⟩ ∧ ∀ i, i < n → SltAt w b (o + i * 6) (X i))
theorem SltOk.below {w w' : World} {x : SltD} (h : SltOk w x) (l : Below w.heap.size w w') : SltOk w' x := ⟨h.e, h.a, h.p, h.l, h.b.below l (Nat.le_refl _), h.n, h.mc, h.cc⟩
theorem SltAt.below {w w' : World} {b o : Nat} {x : SltD} (h : SltAt w b o x) (l : Below w.heap.size w w') : SltAt w' b o x :=
  ⟨kept_l l (cell_lt' h.c0) h.c0, kept_l l (cell_lt' h.c1) h.c1, kept_l l (cell_lt' h.c2) h.c2, kept_l l (cell_lt' h.c3) h.c3, kept_l l (cell_lt' h.c4) h.c4, kept_l l (cell_lt' h.c5) h.c5⟩
theorem Slts.below {w w' : World} {A : Option Addr} {n : Nat} {X : Nat → SltD} (h : Slts w A n X) (l : Below w.heap.size w w') : Slts w' A n X :=
  ⟨h.1, fun i hi => (h.2.1 i hi).below l, fun hn => by
    obtain ⟨b, o, e, k⟩ := h.2.2 hn
    exact ⟨b, o, e, fun i hi => (k i hi).below l⟩⟩
section
variable {H : Type} {enc : TypeId × Value → H} {w : World} {base : Nat} {held : Bool}
theorem lcells_slt : Try.prog.cellsOf 58 = 6 := by kernel_rfl
theorem lcells_u8s : Try.prog.cellsOf 42 = 1 := by kernel_rfl
theorem lcells_bool : Try.prog.cellsOf 4 = 1 := by kernel_rfl
theorem list_six {α : Type} : ∀ (l : List α), l.length = 6 → ∃ a b c d e f, l = [a, b, c, d, e, f]
  | [a, b, c, d, e, f], _ => ⟨a, b, c, d, e, f, rfl⟩
theorem u8s_in {fuel : Nat} {v : Value} {x : DataW H × List MemPlace} (h : DataW.trod enc Try.prog w base (fun _ => true) held fuel 42 [v] = some x) :
    ∃ A n c F, v = .slice A n c ∧ Bytes w A n F ∧ (A = none → c = 0) ∧ n ≤ c ∧ c ≤ 9223372036854775807 := by
  rcases open_ints Try.underlying42 Try.underlying5 lcells_u8 h with ⟨hcs, _⟩ | ⟨x, l, k, zs, hcs, _, hl, hm, hz, _, hcell, hwz⟩
  · simp only [List.cons.injEq, and_true] at hcs
    obtain ⟨F, h1, h2, h3, h4⟩ := bytes_of_row (w := w) (a := none) (len := 0) (cap := 0) (zs := []) (.inl ⟨rfl, rfl, rfl, rfl⟩)
    exact ⟨none, 0, 0, F, hcs, h1, h2, h3, h4⟩
  · simp only [List.cons.injEq, and_true] at hcs
    have hzl : zs.length = k := by simpa using hz
    obtain ⟨F, h1, h2, h3, h4⟩ := bytes_of_row (w := w) (a := some x) (len := l) (cap := k) (zs := zs) (.inr ⟨x, rfl, hl, hm, hzl, fun i hi => hcell i (by omega), hwz⟩)
    exact ⟨some x, l, k, F, hcs, h1, h2, h3, h4⟩
theorem slt_at {fuel b o : Nat} {cs : List Value} {x : DataW H × List MemPlace} (h : DataW.trod enc Try.prog w base (fun _ => true) held fuel 58 cs = some x) (hl0 : cs.length = 6)
    (hc : ∀ j, j < 6 → w.cell? ⟨b, o + j, none⟩ = cs[j]?) : ∃ p : SltD, SltOk w p ∧ SltAt w b o p := by
  obtain ⟨xs, n, _, _, hl, hlen, hf⟩ := DataW.trod_struct Try.underlying58 h
  clear hl
  have hx6 : xs.length = 6 := hlen
  clear hlen
  obtain ⟨c0, c1, c2, c3, c4, c5, rfl⟩ := list_six cs hl0
  obtain ⟨y0, y1, y2, y3, y4, y5, rfl⟩ := list_six xs hx6
  have t0 : DataW.trod enc Try.prog w base (fun _ => true) held n 3 [c0] = some y0 := by simpa [lcells_int] using hf 0 _ rfl
  have t1 : DataW.trod enc Try.prog w base (fun _ => true) held n 3 [c1] = some y1 := by simpa [lcells_int] using hf 1 _ rfl
  have t2 : DataW.trod enc Try.prog w base (fun _ => true) held n 3 [c2] = some y2 := by simpa [lcells_int] using hf 2 _ rfl
  have t3 : DataW.trod enc Try.prog w base (fun _ => true) held n 5 [c3] = some y3 := by simpa [lcells_int, lcells_u8] using hf 3 _ rfl
  have t4 : DataW.trod enc Try.prog w base (fun _ => true) held n 42 [c4] = some y4 := by simpa [lcells_int, lcells_u8, lcells_u8s] using hf 4 _ rfl
  have t5 : DataW.trod enc Try.prog w base (fun _ => true) held n 4 [c5] = some y5 := by simpa [lcells_int, lcells_u8, lcells_u8s, lcells_bool] using hf 5 _ rfl
  obtain ⟨z0, e0, _, w0⟩ := DataW.trod_int Try.underlying3 t0
  obtain ⟨z1, e1, _, w1⟩ := DataW.trod_int Try.underlying3 t1
  obtain ⟨z2, e2, _, w2⟩ := DataW.trod_int Try.underlying3 t2
  obtain ⟨z3, e3, _, w3⟩ := DataW.trod_int Try.underlying5 t3
  obtain ⟨A, m, c, F, e4, hB, hnil, hmc, hcc⟩ := u8s_in t4
  obtain ⟨z5, e5, _⟩ := DataW.trod_bool Try.underlying4 t5
  simp only [List.cons.injEq, and_true] at e0 e1 e2 e3 e5
  subst e0 e1 e2 e3 e4 e5
  have b3 := bounds_u8 w3
  refine ⟨⟨z0, z1, z2, z3.toNat, A, m, c, F, z5⟩, ⟨bounds_i64 w0, bounds_i64 w1, bounds_i64 w2, ?_, hB, hnil, hmc, hcc⟩, hc 0 (by omega), hc 1 (by omega), hc 2 (by omega), ?_, hc 4 (by omega), hc 5 (by omega)⟩
  · show z3.toNat < 256
    omega
  · show w.cell? ⟨b, o + 3, none⟩ = some (.int .u8 ((z3.toNat : Nat) : Int))
    rw [Int.toNat_of_nonneg (by omega)]
    exact hc 3 (by omega)
theorem slts_in {fuel : Nat} {v : Value} {x : DataW H × List MemPlace} (h : DataW.trod enc Try.prog w base (fun _ => true) held fuel 55 [v] = some x) :
    ∃ A n c X, v = .slice A n c ∧ Slts w A n X := by
  rcases open_slice Try.underlying55 h with ⟨hcs, _⟩ | ⟨a, len, cap, m, n, D, Pl, hcs, hb, hl, hm, hmm, hx, hi⟩
  · simp only [List.cons.injEq, and_true] at hcs
    exact ⟨none, 0, 0, fun _ => slt0, hcs, by omega, fun i hi => absurd hi (by omega), fun hn => absurd hn (by omega)⟩
  · simp only [List.cons.injEq, and_true] at hcs
    unfold maxLen at hm
    rw [lcells_slt] at hi
    have hm2 : m = cap := by simpa using hmm
    subst hm2
    have hall : 0 < m → ∃ b o, a = ⟨b, o, none⟩ ∧ ∀ i, i < m → ∃ p : SltD, SltOk w p ∧ SltAt w b (o + i * 6) p := fun h0 => by
      obtain ⟨b, off, spot⟩ := a
      have hspot : spot = none := by
        obtain ⟨cs', hc, _⟩ := hi 0 h0
        obtain ⟨_, hcl, hat⟩ := World.cells?_some hc
        have h0 := hat 0 (by omega)
        have hv : cs'[0]? = some (cs'[0]'(by omega)) := List.getElem?_eq_getElem (by omega)
        rw [hv] at h0
        simpa [Addr.add] using World.cell?_spot h0
      subst hspot
      refine ⟨b, off, rfl, fun i him => ?_⟩
      obtain ⟨cs', hc, ht⟩ := hi i him
      obtain ⟨_, hcl, hat⟩ := World.cells?_some hc
      refine slt_at ht hcl fun j hj => ?_
      have hj := hat j hj
      rw [← hj, addr_add2]
    rcases Nat.eq_zero_or_pos m with h0 | h0
    · subst h0
      exact ⟨some a, len, 0, fun _ => slt0, hcs, by omega, fun i hi => absurd hi (by omega), fun hn => absurd hn (by omega)⟩
    · obtain ⟨b, o, rfl, hX⟩ := hall h0
      obtain ⟨X, hX⟩ := Classical.axiomOfChoice (fun i => show ∃ p : SltD, i < m → SltOk w p ∧ SltAt w b (o + i * 6) p from by
        by_cases q : i < m
        · obtain ⟨X, hX⟩ := hX i q
          exact ⟨X, fun _ => hX⟩
        · exact ⟨slt0, fun z => absurd z q⟩)
      exact ⟨some ⟨b, o, none⟩, len, m, X, hcs, by omega, fun i hi => (hX i (by omega)).1, fun _ => ⟨b, o, rfl, fun i hi => (hX i (by omega)).2⟩⟩
end
end Go.Proofs.Ytmikemijdglgaaa
/- log.Latest, of a disk that is up. -/
namespace Go.Proofs.Ytmikemijdglgaaa
open Go.RowKit
set_option linter.unusedVariables false
set_option linter.unusedSimpArgs false

open Go.Shelf
attribute [local go_sem] Oper.semAt_some
/-- The greatest epoch of slots. -/
def latOf (S : DS) (first : Nat) (ns : List Nat) : Nat := ns.foldl (fun a i => max a (epochN (S.now (first + i)) (S.size - 20) i)) 0
theorem latOf_snoc (S : DS) (first : Nat) (ns : List Nat) (i : Nat) : latOf S first (ns ++ [i]) = max (latOf S first ns) (epochN (S.now (first + i)) (S.size - 20) i) := by unfold latOf; rw [List.foldl_append]; rfl
theorem epochN_le (F : Nat → Nat) (m i : Nat) : epochN F m i ≤ 1099511627776 := by
  unfold epochN
  split
  · split
    · rename_i h; exact h.2.1
    · omega
  · omega
theorem latOf_le (S : DS) (first : Nat) (ns : List Nat) : latOf S first ns ≤ 1099511627776 := by
  have : ∀ (ns : List Nat) (a : Nat), a ≤ 1099511627776 → ns.foldl (fun a i => max a (epochN (S.now (first + i)) (S.size - 20) i)) a ≤ 1099511627776 := by
    intro ns
    induction ns with
    | nil => exact fun a h => h
    | cons i ns ih => exact fun a h => ih _ (Nat.max_le.2 ⟨h, epochN_le _ _ _⟩)
  exact this ns 0 (by omega)
theorem slotRead_one (i b o n m c : Nat) (F : Nat → Nat) (w : World) (hi : i ≤ 1048576) (h1 : m + 20 ≤ n) (h2 : n ≤ m + 20) (h44 : 44 ≤ m) (hm : m ≤ 4076) (hc : n ≤ c) (hc2 : c ≤ 9223372036854775807) (hb : Bytes w (some ⟨b, o, none⟩) n F) (ep : Nat) (he : ep = epochN F m i) :
    Calls Try.prog 45 #[.agg #[.int .i64 i, .slice (some ⟨b, o, none⟩) n c]] w fun e w' => (∃ A k d, e = .returned (.tuple #[.int .i64 (ep : Nat), .slice A k d])) ∧ Below w.heap.size w w' :=
  (slotRead_any i b o n m c F w hi h1 h2 h44 hm hc hc2 hb).mono fun e w' h => by
    subst he
    obtain ⟨⟨h0, h1⟩ | ⟨_, B, d, h1, _⟩, h2⟩ := h
    · rw [h0]; exact ⟨⟨_, _, _, h1⟩, h2⟩
    · exact ⟨⟨_, _, _, h1⟩, h2⟩
/-- What stands while Latest runs. -/
def LtFix (w : World) (n0 q0 : Nat) (M : DM) (first count : Nat) (W : World) : Prop :=
  (Boxed W n0 3 (.int .i64 0) ∧ Boxed W (n0 + 1) 29 (.int .i64 0) ∧ W.heap[q0 + 1 + 1]? = some (.cells #[.pointer (some ⟨M.p, 0, none⟩), .int .i64 (first : Nat), .int .i64 (count : Nat)] 80 (0, 0))) ∧ Below n0 w W ∧ q0 + 3 ≤ W.heap.size
theorem LtFix.own {β : Type} {B n0 q0 : Nat} {w : World} {M : DM} {first count : Nat} (hn : n0 ≤ w.heap.size) (hB : n0 ≤ B) : OwnFrom B (fun (_ : β) W => LtFix w n0 q0 M first count W) := fun x A C row hs hg hr =>
  ⟨⟨fixed_own (B := B) x A C row hs.1.1 hg hr, fixed_own (B := B) x A C row hs.1.2.1 hg hr, fixed_own (B := B) x A C row hs.1.2.2 hg hr⟩, ownFrom_below hn hB x A C row hs.2.1 hg hr, Nat.le_trans hs.2.2 hg.size⟩
def LtI (w : World) (M : DM) (S : DS) (first count n0 q0 : Nat) (pre : List (Nat × Nat)) (W : World) : Prop := Boxed W (q0 + 1) 3 (.int .i64 (latOf S first (pre.map Prod.fst) : Nat)) ∧ LtFix w n0 q0 M first count W
theorem LtI.own {B n0 q0 : Nat} {w : World} {M : DM} {S : DS} {first count : Nat} (hn : n0 ≤ w.heap.size) (hB : n0 ≤ B) : OwnFrom B (LtI w M S first count n0 q0) := fun x A C row hs hg hr =>
  ⟨fixed_own (B := B) x A C row hs.1 hg hr, LtFix.own (B := B) hn hB x A C row hs.2 hg hr⟩
def LtBP (w : World) (M : DM) (S : DS) (first count n0 q0 : Nat) (xs : List (Nat × Nat)) (W : World) (e : Exit) (W' : World) : Prop :=
  e = .normal ∧ KeepsOthers W W' ∧ KpE n0 (q0 + 1 + 1) W W' ∧ LtI w M S first count n0 q0 xs W'
set_option maxRecDepth 100000 in
set_option maxHeartbeats 16000000 in
theorem latest_at [Spare] (base first count : Nat) (M : DM) (S : DS) (w : World) (hD : Dsk w base M S) (hup : S.down = false) (hpl : plB S.N first count) :
    Calls Try.prog 22 #[.pointer (some ⟨M.p, 0, none⟩), .int .i64 first, .int .i64 count] w fun e w' => e = .returned (.tuple #[.int .i64 (latOf S first (List.range count) : Nat), .int .i64 0]) ∧ Below w.heap.size w w' := by
  have hN := hD.hN.2
  have hS := hD.hS
  obtain ⟨p0, p1, p2, p3⟩ := hpl
  have hfc : first + count ≤ S.N := by omega
  obtain ⟨n0, hn0⟩ : ∃ n0, n0 = w.heap.size := ⟨_, rfl⟩
  obtain ⟨B0, hB0⟩ : ∃ B0 : World, B0 = (w.alloc (.cells #[.int .i64 0] 3)).alloc (.cells #[.int .i64 0] 29) := ⟨_, rfl⟩
  have hb0 : Below n0 w B0 := by
    subst hB0 hn0
    exact ((Below.refl _ _).alloc (Nat.le_refl _) _).alloc (by simp) _
  have hs0 : B0.heap.size = n0 + 2 := by subst hB0 hn0; simp
  have e1 : Boxed B0 n0 3 (.int .i64 0) := by subst hB0 hn0; exact (Boxed.new _ _ _).alloc _
  have e2 : Boxed B0 (n0 + 1) 29 (.int .i64 0) := by subst hB0 hn0; exact boxed_at (by simp) _ _
  have KP1 := Lib.hid ((placeOf_any first count B0 base M S (hD.below (hn0 ▸ hb0)) (by omega) (by omega) (by omega)).mono (R' := fun e w' => e = .returned (.tuple #[.agg #[.pointer (some ⟨M.p, 0, none⟩), .int .i64 (first : Nat), .int .i64 (count : Nat)], .int .i64 0]) ∧ Below B0.heap.size B0 w') (fun e w' h => by
    obtain ⟨⟨_, h1⟩ | ⟨h0, _⟩, h2⟩ := h
    · exact ⟨h1, h2⟩
    · exact absurd ⟨p0, p1, p2, p3⟩ h0))
  have HD := Lib.hid hD
  have HB0 := Lib.hid hb0
  have HBe := Lib.hid hB0
  have E := Lib.hid (And.intro e1 e2)
  have HN0 := Lib.hid hn0
  clear hD hb0 e1 e2
  refine (callsIn_wide (n := 8)).1 ?_
  refine callsIn_of_wp_marks Try.func22 rfl trivial ?_ rfl
  simp only [Try.ntmps22, List.size_toArray, List.length_cons, List.length_nil, Nat.reduceAdd, Nat.reduceSub, Array.replicate_succ, Array.replicate_zero, List.push_toArray, List.append_toArray, List.nil_append, List.cons_append]
  clear hn0 hB0
  gi_upto_region 1 with (fail)
  rw [← HBe.out, ← HN0.out]
  gi_wp2_with (first
    | (refine ⟨trivial, ?_⟩; gi_at_call 34; refine CallsIn.mono (callsIn_wide.2 KP1.out) ?_; rintro _ w1 ⟨rfl, l1⟩; have L1 := Lib.hid l1; have hs1 := l1.size; clear l1)
    | (refine ⟨trivial, ?_⟩; gi_at_call 36; refine CallsIn.mono (callsIn_wide.2 (slots_any _ _ _ _)) ?_; rintro _ _ ⟨rfl, rfl⟩))
  obtain ⟨q0, hq0⟩ : ∃ q0, q0 = w1.heap.size := ⟨_, rfl⟩
  obtain ⟨Wl, hWl⟩ : ∃ Wl : World, Wl = ((w1.alloc (.cells #[.pointer (some ⟨M.p, 0, none⟩), .int .i64 (first : Nat), .int .i64 (count : Nat)] 80)).alloc (.cells #[.int .i64 0] 3)).alloc (.cells #[.pointer (some ⟨M.p, 0, none⟩), .int .i64 (first : Nat), .int .i64 (count : Nat)] 80) := ⟨_, rfl⟩
  have hsl : Wl.heap.size = q0 + 3 := by subst hWl hq0; simp
  have hbl1 : Below w1.heap.size w1 Wl := by
    subst hWl
    exact (((Below.refl _ _).alloc (Nat.le_refl _) _).alloc (by simp) _).alloc (by simp; omega) _
  have hblB : Below B0.heap.size B0 Wl := L1.out.trans (hbl1.mono L1.out.size)
  have hbl : Below n0 w Wl := HB0.out.trans (hblB.mono (by omega))
  have bl : Boxed Wl (q0 + 1) 3 (.int .i64 0) := by subst hWl hq0; exact (boxed_at (by simp) _ _).alloc _
  have hBs : Wl.heap[q0 + 1 + 1]? = some (.cells #[.pointer (some ⟨M.p, 0, none⟩), .int .i64 (first : Nat), .int .i64 (count : Nat)] 80 (0, 0)) := by
    have := World.alloc_heap_new ((w1.alloc (.cells #[.pointer (some ⟨M.p, 0, none⟩), .int .i64 (first : Nat), .int .i64 (count : Nat)] 80)).alloc (.cells #[.int .i64 0] 3)) (.cells #[.pointer (some ⟨M.p, 0, none⟩), .int .i64 (first : Nat), .int .i64 (count : Nat)] 80)
    rw [← hWl] at this
    simpa [← hq0] using this
  have g1 : Boxed Wl n0 3 (.int .i64 0) := (hblB.block n0 (by omega)).trans E.out.1
  have g2 : Boxed Wl (n0 + 1) 29 (.int .i64 0) := (hblB.block (n0 + 1) (by omega)).trans E.out.2
  have hn0q : n0 + 2 ≤ q0 := by omega
  have hnw := HN0.out
  rw [← hWl, ← hq0]
  clear hWl hq0 hs1 hbl1
  have hsq := slots_seq (8 - 1) (by omega) (q0 + 1 + 1) base first count M S w HD.out hup hfc Wl (hnw ▸ hbl) hBs
  rw [← hnw] at hsq
  have hnle : n0 ≤ w.heap.size := Nat.le_of_eq hnw
  refine SeqMem.loopA rfl (by omega) (gf := 57) (lb := #[.pointer (some ⟨q0 + 1 + 1, 0, none⟩)]) rfl trivial (enters_of Try.func57 (by kernel_rfl) rfl)
    hsq (fun h k => KpE.t h k) (KpE.b (by omega) (by omega)) (Below.refl _ _) (fun _ => rfl)
    (LtI w M S first count n0 q0) (fun cd pre W => False) (LtI.own hnle (by omega)) (fun cd pre A C row hs hg hr => hs) ⟨bl, ⟨g1, g2, hBs⟩, hbl, by omega⟩
    (fun pre x a' W => LtI w M S first count n0 q0 pre W ∧ SlY S first count n0 x W ∧ ∃ B1, W.heap[B1]? = some (.cells #[.int .i64 (x.1 : Nat), .slice (some ⟨x.2, 0, none⟩) S.size S.size] 90 (0, 0)) ∧ a' = { tmps := #[.pointer (some ⟨M.p, 0, none⟩), .int .i64 (first : Nat), .int .i64 (count : Nat), undef, undef, undef, .pointer (some ⟨n0, 0, none⟩), .pointer (some ⟨n0 + 1, 0, none⟩), .pointer (some ⟨q0, 0, none⟩), .int .i64 0, .pointer (some ⟨q0 + 1, 0, none⟩), .pointer (some ⟨B1, 0, none⟩), .int .i64 0, undef, undef, .tuple #[.agg #[.pointer (some ⟨M.p, 0, none⟩), .int .i64 (first : Nat), .int .i64 (count : Nat)], .int .i64 0], .pointer (some ⟨M.p, 0, none⟩), .int .i64 (first : Nat), .int .i64 (count : Nat), .tuple #[.agg #[.pointer (some ⟨M.p, 0, none⟩), .int .i64 (first : Nat), .int .i64 (count : Nat)], .int .i64 0], .agg #[.pointer (some ⟨M.p, 0, none⟩), .int .i64 (first : Nat), .int .i64 (count : Nat)], .int .i64 0, .int .i64 0, .bool false, undef, .agg #[.pointer (some ⟨M.p, 0, none⟩), .int .i64 (first : Nat), .int .i64 (count : Nat)], .func (.func 57) #[] #[.pointer (some ⟨q0 + 1 + 1, 0, none⟩)], .agg #[.int .i64 (x.1 : Nat), .slice (some ⟨x.2, 0, none⟩) S.size S.size], .int .i64 0, undef, undef, undef, undef, undef, undef, undef, undef, undef, undef, undef, undef], defers := [] })
    (fun pre x a' W1 l o o' hl hs ho hc => by
      obtain ⟨h1, h4, B1, h5, h6⟩ := hs
      exact ⟨(LtI.own hnle (B := Wl.heap.size) (by omega)).putObj o' h1 hl ho hc, (slY_own (B := Wl.heap.size)).putObj o' h4 hl ho hc, B1, (fixed_own (B := Wl.heap.size)).putObj (s := ()) o' h5 hl ho hc, h6⟩)
    ?assign
    (fun xs W e a' W' => LtBP w M S first count n0 q0 xs W e W')
    ?body
    (fun xs W a' W' h => ⟨h.2.1, h.2.2.1, h.2.2.2⟩)
    (fun xs W a' W' h => by cases h.1)
    (fun xs W id a' W' h => by cases h.1)
    (fun xs W e a' W' h => .inl h.1)
    ?done (fun D c pre W _ _ h => h.elim)
  case assign =>
    rintro l pre x W K hI hy hlen hK
    have HKK := Lib.hid hK
    have HI := Lib.hid hI
    have HY := Lib.hid hy
    clear hK hI hy hsq hnw
    gi_wp2
    have hnw := HN0.out
    have hl3 : Below W.heap.size W (W.alloc (.cells #[.int .i64 (x.1 : Nat), .slice (some ⟨x.2, 0, none⟩) S.size S.size] 90)) := (Below.refl _ W).alloc (Nat.le_refl _) _
    have hsW := HI.out.2.2.2
    exact HKK.out _ _ ⟨(LtI.own hnle (B := Wl.heap.size) (by omega)).alloc _ HI.out, (slY_own (B := Wl.heap.size)).alloc _ HY.out, W.heap.size, World.alloc_heap_new _ _, rfl⟩ (KeepsOthers.alloc _ _) (KpE.below hl3 (by omega) (by omega))
  case body =>
    rintro l pre x a' W ⟨hI, hY, B1, hB1, rfl⟩ hlt
    obtain ⟨hrow, hx2, hx1⟩ := hY
    have hsW := hI.2.2.2
    have s0 : W.cell? ⟨B1, 0, none⟩ = some (.int .i64 (x.1 : Nat)) := by simp [World.cell?, hB1]
    have s1 : W.cell? ⟨B1, 1, none⟩ = some (.slice (some ⟨x.2, 0, none⟩) S.size S.size) := by simp [World.cell?, hB1]
    have hbytes := (hrow.bytes (o := 0) (m := S.size) (by omega)).congr (G := S.now (first + x.1)) (fun i hi => by simp)
    obtain ⟨ep, hep⟩ : ∃ ep, ep = epochN (S.now (first + x.1)) (S.size - 20) x.1 := ⟨_, rfl⟩
    have KC := Lib.hid (slotRead_one x.1 x.2 0 S.size (S.size - 20) S.size (S.now (first + x.1)) W (by omega) (by omega) (by omega) (by omega) (by omega) (Nat.le_refl _) (by omega) hbytes ep hep)
    have HEp := Lib.hid hep
    obtain ⟨la, hla⟩ : ∃ la, la = latOf S first (pre.map Prod.fst) := ⟨_, rfl⟩
    have HLa := Lib.hid hla
    have hI1 := hI.1
    rw [← hla] at hI1
    have HB := Lib.hid hI1
    have HI := Lib.hid hI
    clear hbytes hrow hB1 hx2 hsq hnw hep hla hI hI1
    gi_wp2_with (refine ⟨trivial, ?_⟩; gi_at_call 45; refine CallsIn.mono (callsIn_wide.2 KC.out) ?_; rintro _ w5 ⟨⟨A, k, d, rfl⟩, l5⟩; have b5 : Boxed w5 (q0 + 1) 3 (.int .i64 (la : Nat)) := (l5.block _ (by omega)).trans HB.out; have c5 := b5.cell; have f5 := b5.frozen; have HB5 := Lib.hid b5; have L5 := Lib.hid l5; clear b5 l5)
    all_goals
      have fin : ∀ v : Nat, v = max la ep → LtBP w M S first count n0 q0 (pre ++ [x]) W .normal (w5.setCell ⟨q0 + 1, 0, none⟩ (.int .i64 (v : Nat))) := by
        intro v hv
        have hs5 := L5.out.size
        have hF := HI.out.2
        have hset : ∀ q, q ≠ q0 + 1 → q < W.heap.size → (w5.setCell ⟨q0 + 1, 0, none⟩ (.int .i64 (v : Nat))).heap[q]? = W.heap[q]? := fun q h1 h2 => (Below.heap_setCell _ _ _ _ h1).trans (L5.out.block q h2)
        have hbW : Below n0 W (w5.setCell ⟨q0 + 1, 0, none⟩ (.int .i64 (v : Nat))) := (L5.out.mono (by omega)).setCell (p := ⟨q0 + 1, 0, none⟩) (by show n0 ≤ q0 + 1; omega) _
        have ev : v = latOf S first ((pre ++ [x]).map Prod.fst) := by rw [List.map_append, hv, HLa.out, HEp.out]; exact (latOf_snoc _ _ _ _).symm
        rw [ev] at hset hbW ⊢
        unfold LtBP
        refine ⟨rfl, (KeepsOthers.of_grownBy (grown_below (r := none) L5.out) (by simp)).trans (KeepsOthers.setCell _ _ _), ⟨hbW, hset _ (by omega) (by omega)⟩, Boxed.set _ HB5.out, ⟨(hset _ (by omega) (by omega)).trans hF.1.1, (hset _ (by omega) (by omega)).trans hF.1.2.1, (hset _ (by omega) (by omega)).trans hF.1.2.2⟩, hF.2.1.trans hbW, by rw [size_set]; omega⟩
      exact fin _ (by omega)
  case done =>
    rintro D xs W hDl hSx hI hK
    obtain ⟨la, hla⟩ : ∃ la, la = latOf S first (xs.map Prod.fst) := ⟨_, rfl⟩
    have hI1 := hI.1
    rw [← hla] at hI1
    have cG := hI1.cell
    have d1 := hI.2.1.1.cell
    have d2 := hI.2.1.2.1.cell
    have f1 := hI.2.1.1.frozen
    have f2 := hI.2.1.2.1.frozen
    rw [hSx] at hla
    have HLa := Lib.hid hla
    have HI := Lib.hid hI
    have HK := Lib.hid hK
    clear hI hI1 hK hsq hnw hla
    gi_wp2
    have hn1 : n0 ≠ D := fun e => by have := HI.out.2.1.1; have k := HK.out; rw [← e, this] at k; cases k
    have hn2 : n0 + 1 ≠ D := fun e => by have := HI.out.2.1.2.1; have k := HK.out; rw [← e, this] at k; cases k
    have hDk : ((W.setCell ⟨n0, 0, none⟩ (.int .i64 (la : Nat))).setCell ⟨n0 + 1, 0, none⟩ (.int .i64 0)).heap[D]? = some (.deferred (some [])) := ((Below.heap_setCell _ _ _ _ (by show D ≠ n0 + 1; omega)).trans (Below.heap_setCell _ _ _ _ (by show D ≠ n0; omega))).trans HK.out
    refine ⟨by simp, .inl ⟨_, _, rfl, run_takeDeferred hDk, ?_⟩⟩
    have r1 : Boxed (((W.setCell ⟨n0, 0, none⟩ (.int .i64 (la : Nat))).setCell ⟨n0 + 1, 0, none⟩ (.int .i64 0)).putObj D (.deferred none)) n0 3 (.int .i64 (la : Nat)) :=
      ((Boxed.set _ HI.out.2.1.1).other (by omega) _).kept (grownBy_putObj' _ D _) (fun e => hn1 (by cases e; rfl))
    have r2 : Boxed (((W.setCell ⟨n0, 0, none⟩ (.int .i64 (la : Nat))).setCell ⟨n0 + 1, 0, none⟩ (.int .i64 0)).putObj D (.deferred none)) (n0 + 1) 29 (.int .i64 0) :=
      (Boxed.set _ (Boxed.other HI.out.2.1.2.1 (by omega) _)).kept (grownBy_putObj' _ D _) (fun e => hn2 (by cases e; rfl))
    have k1 := r1.cell
    have k2 := r2.cell
    have hnw := HN0.out
    refine ⟨_, ?_, ⟨by rw [← HLa.out], ((HI.out.2.2.1.mono (Nat.le_of_eq hnw.symm)).setCell (p := ⟨n0, 0, none⟩) (by show w.heap.size ≤ n0; omega) _ |>.setCell (p := ⟨n0 + 1, 0, none⟩) (by show w.heap.size ≤ n0 + 1; omega) _).trans (belowK_b (w := w) (Nat.le_refl _) _ D _ _ (by omega) hDk rfl rfl)⟩⟩
    simp [results, Try.f22, go_sem, k1, k2]
end Go.Proofs.Ytmikemijdglgaaa
