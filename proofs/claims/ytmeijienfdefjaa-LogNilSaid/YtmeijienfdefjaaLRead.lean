/- log.Read, of a disk that is up. -/
import Derived.Test.YtmeijienfdefjaaLGrp
namespace Go.Proofs.Ytmeijienfdefjaa
open Go.RowKit
set_option linter.unusedVariables false
set_option linter.unusedSimpArgs false

open Go.Shelf
attribute [local go_sem] Oper.semAt_some
def gsOf (last : Nat → Bool) (ns : List Nat) : List (List Nat) × List Nat := ns.foldl (gStep last) ([], [])
theorem gsOf_snoc (last : Nat → Bool) (ns : List Nat) (i : Nat) : gsOf last (ns ++ [i]) = gStep last (gsOf last ns) i := by unfold gsOf; rw [List.foldl_append]; rfl
theorem gsOf_range (last : Nat → Bool) (k : Nat) : gsOf last (List.range k) = gTo last k := rfl
theorem gsFold_len (last : Nat → Bool) (ns : List Nat) : ∀ st : List (List Nat) × List Nat, (ns.foldl (gStep last) st).1.length ≤ st.1.length + ns.length ∧ (ns.foldl (gStep last) st).2.length ≤ st.2.length + ns.length := by
  induction ns with
  | nil => exact fun st => ⟨Nat.le_refl _, Nat.le_refl _⟩
  | cons i ns ih =>
    intro st
    rw [List.foldl_cons, List.length_cons]
    have h := ih (gStep last st i)
    have q : (gStep last st i).1.length ≤ st.1.length + 1 ∧ (gStep last st i).2.length ≤ st.2.length + 1 := by
      unfold gStep
      split
      · simp
      · simp
    omega
theorem gsOf_len (last : Nat → Bool) (ns : List Nat) : (gsOf last ns).1.length ≤ ns.length ∧ (gsOf last ns).2.length ≤ ns.length := by
  have := gsFold_len last ns ([], [])
  simp only [List.length_nil, Nat.zero_add] at this
  exact this
/-- Is a slot the last of its group? -/
def lastB (S : DS) (first : Nat) (i : Nat) : Bool := decide (flagN (S.now (first + i)) = 1)
abbrev chAt (S : DS) (first epoch i : Nat) : Prop := isCh (S.now (first + i)) (S.size - 20) i epoch
/-- What Read hands back, of a disk that is up, where a log may stand. -/
def ReadP (S : DS) (first count epoch : Nat) (w : World) (e : Ending) (w' : World) : Prop :=
  (∃ k v vs X, k ≤ count ∧ (∀ i, i < k → chAt S first epoch i) ∧ (k < count → ¬ chAt S first epoch k) ∧ e = .returned (.tuple #[v, .int .i64 0]) ∧
    w'.ownsRow w.heap.size 38 1 v (gTo (lastB S first) k).1.length vs ∧
    (∀ (j : Nat) (u : Value) (g : List Nat), vs[j]? = some u → (gTo (lastB S first) k).1[j]? = some g → GrpX X w' (S.size - 20) (fun i => S.now (first + i)) g u) ∧
    (∀ b, X b → w.heap.size ≤ b ∧ b < w'.heap.size ∧ some b ≠ v.ownBlock)) ∧ Below w.heap.size w w'
/-- A disk's slot, as it is handed out, is kept by new memory. -/
theorem slY_own {S : DS} {first count n₀ B : Nat} : OwnFrom B (fun (x : Nat × Nat) W => SlY S first count n₀ x W) := fun x A C row hs hg hr =>
  ⟨hs.1.other hg (fun e => by
    obtain ⟨_, o, ho, hc⟩ := hr _ e.symm
    obtain ⟨c, hb, _⟩ := hs.1.1
    rw [hb] at ho; cases ho; cases hc), hs.2⟩
/-- A block of cells is kept by new memory. -/
theorem fixed_own {β : Type} {B q : Nat} {c : Array Value} {t : TypeId} : OwnFrom B (fun (_ : β) W => W.heap[q]? = some (.cells c t (0, 0))) := fun x A C row hs hg hr =>
  (hg.block q (Array.getElem?_eq_some_iff.1 hs).1 (fun e => by
    obtain ⟨_, o, ho, hc⟩ := hr q e.symm
    rw [hs] at ho; cases ho; cases hc)).trans hs
theorem infoCh : (Try.prog.info? 44).map (fun i => (i.zero, i.size, i.bytes)) = some (some (.agg #[.int .i64 0, .slice none 0 0]), 2, 32) := by kernel_rfl
theorem infoGr : (Try.prog.info? 38).map (fun i => (i.zero, i.size, i.bytes)) = some (some (.slice none 0 0), 1, 24) := by kernel_rfl
theorem infoPartsR {P : Program} {T : TypeId} {z : Value} {s b : Nat} (h : (P.info? T).map (fun i => (i.zero, i.size, i.bytes)) = some (some z, s, b)) : ∃ i, P.info? T = some i ∧ i.zero = some z ∧ i.size = s ∧ i.bytes = b := by
  cases hp : P.info? T with
  | none => rw [hp] at h; cases h
  | some i =>
    rw [hp] at h
    simp only [Option.map_some, Option.some.injEq, Prod.mk.injEq] at h
    exact ⟨i, rfl, h.1, h.2.1, h.2.2⟩
theorem cells_newR2 (W : World) (a b : Value) (T : TypeId) : ∀ (j : Nat) (u : Value), [a, b][j]? = some u → (W.alloc (.cells #[a, b] T)).cell? ((⟨W.heap.size, 0, none⟩ : Addr).add j) = some u := by
  intro j u h
  rw [Addr.add_mid, Nat.zero_add]
  rcases j with _ | _ | j
  · simp at h ⊢; exact h
  · simp at h ⊢; exact h
  · simp at h
theorem cells_newR1 (W : World) (a : Value) (T : TypeId) : ∀ (j : Nat) (u : Value), [a][j]? = some u → (W.alloc (.cells #[a] T)).cell? ((⟨W.heap.size, 0, none⟩ : Addr).add j) = some u := by
  intro j u h
  rw [Addr.add_mid, Nat.zero_add]
  rcases j with _ | j
  · simp at h ⊢; exact h
  · simp at h
/-- What a round of Read keeps. -/
structure Rb (n0 n1 bG bg : Nat) (W W' : World) : Prop where
  ko : KeepsOthers W W'
  bl : Below n0 W W'
  fx : ∀ q, q < n1 → q ≠ bG → q ≠ bg → W'.heap[q]? = W.heap[q]?
theorem Rb.trans {n0 n1 bG bg : Nat} {A B C : World} (h : Rb n0 n1 bG bg A B) (k : Rb n0 n1 bG bg B C) : Rb n0 n1 bG bg A C := ⟨h.ko.trans k.ko, h.bl.trans k.bl, fun q a b c => (k.fx q a b c).trans (h.fx q a b c)⟩
theorem Rb.below {n0 n1 bG bg : Nat} {W W' : World} (h : Below W.heap.size W W') (h0 : n0 ≤ n1) (h1 : n1 ≤ W.heap.size) : Rb n0 n1 bG bg W W' := ⟨KeepsOthers.of_grownBy (grown_below (r := none) h) (by simp), h.mono (Nat.le_trans h0 h1), fun q a _ _ => h.block q (by omega)⟩
theorem Rb.own {n0 n1 bG bg e size k : Nat} {v : Value} {xs : List Value} {W W' : World} (hg : W.grownBy W' v.ownBlock) (ho : W.ownsRow n1 e size v k xs) (h0 : n0 ≤ n1) (h1 : n1 ≤ W.heap.size) : Rb n0 n1 bG bg W W' :=
  ⟨KeepsOthers.of_grownBy hg fun j o ej hj => by
    rcases ho.2 with ⟨rfl, _⟩ | ⟨g, cap, cur, rfl, _, hgb, _⟩
    · simp [Value.ownBlock] at ej
    · simp [Value.ownBlock] at ej
      subst ej
      rw [hgb] at hj
      cases hj
      rfl,
    (Below.refl n0 W).grown hg (Nat.le_trans h0 h1) (fun j hj => by have := (ho.lt j hj).1; omega), fun q a _ _ => hg.block q (by omega) (fun e' => by have := (ho.lt q e'.symm).1; omega)⟩
theorem Rb.set {n0 n1 bG bg B : Nat} {W : World} (hB : B = bG ∨ B = bg) (h0 : n0 ≤ B) (v : Value) : Rb n0 n1 bG bg W (W.setCell ⟨B, 0, none⟩ v) :=
  ⟨KeepsOthers.setCell _ _ _, (Below.refl n0 W).setCell (p := ⟨B, 0, none⟩) h0 v, fun q _ b c => Below.heap_setCell _ _ _ _ (by show q ≠ B; omega)⟩
theorem GI.close' {w0 W w9 : World} {n1 bG bg m k : Nat} {Fs : Nat → Nat → Nat} {gs : List (List Nat)} {g : List Nat} {X : Nat → Prop} {vG v2 : Value} {b0 c0 : Nat} {vs : List Value} {ls : List (Int × Value)} (hk : k = g.length)
    (h : GP w0 n1 bG bg m Fs gs g X vG (.slice (some ⟨b0, 0, none⟩) k c0) vs ls W) (hw0 : w0.heap.size ≤ n1) (hb0 : w0.heap.size ≤ bg) (hbG0 : w0.heap.size ≤ bG) (hne : bG ≠ bg) (hbg : bg < n1) (hbG : bG < n1) (hown : w9.ownsRow n1 38 1 v2 (gs.length + 1) (vs ++ [.slice (some ⟨b0, 0, none⟩) k c0])) (hgr : W.grownBy w9 vG.ownBlock) (hat : v2.ownBlock = vG.ownBlock ∨ ∃ q, v2.ownBlock = some q ∧ W.heap.size ≤ q) :
    GP w0 n1 bG bg m Fs (gs ++ [g]) [] (fun b => X b ∨ b = b0) v2 (.slice none 0 0) (vs ++ [.slice (some ⟨b0, 0, none⟩) g.length c0]) [] ((w9.setCell ⟨bG, 0, none⟩ v2).setCell ⟨bg, 0, none⟩ (.slice none 0 0)) := by
  subst hk
  obtain ⟨h1, h2, h3, h4, h5, h6, h7, h8, h9, h10, h11⟩ := h
  exact GI.close h1 h2 h3 h4 h5 h6 h7 h8 h9 hw0 hb0 hbG0 hne hbg hbG hown hgr hat
/-- A slot that holds no change of the epoch. -/
theorem change_no (i b o n m c epoch : Nat) (F : Nat → Nat) (w : World) (hep : 1 ≤ epoch) (hi : i ≤ 1048576) (h1 : m + 20 ≤ n) (h2 : n ≤ m + 20) (h44 : 44 ≤ m) (hm : m ≤ 4076) (hc : n ≤ c) (hc2 : c ≤ 9223372036854775807) (hb : Bytes w (some ⟨b, o, none⟩) n F) (hno : ¬ isCh F m i epoch) :
    Calls Try.prog 37 #[.agg #[.int .i64 i, .slice (some ⟨b, o, none⟩) n c], .int .i64 epoch] w fun e w' => e = .returned (.tuple #[.agg #[.int .i64 0, .slice none 0 0], .bool false, .bool false]) ∧ Below w.heap.size w w' :=
  (change_any i b o n m c epoch F w hep hi h1 h2 h44 hm hc hc2 hb).mono fun e w' h => by
    obtain ⟨⟨_, h1⟩ | ⟨h0, _⟩, h2⟩ := h
    · exact ⟨h1, h2⟩
    · exact absurd h0 hno
theorem change_yes (i b o n m c epoch : Nat) (F : Nat → Nat) (w : World) (hep : 1 ≤ epoch) (hi : i ≤ 1048576) (h1 : m + 20 ≤ n) (h2 : n ≤ m + 20) (h44 : 44 ≤ m) (hm : m ≤ 4076) (hc : n ≤ c) (hc2 : c ≤ 9223372036854775807) (hb : Bytes w (some ⟨b, o, none⟩) n F) (hyes : isCh F m i epoch) (fl : Bool) (hfl : decide (flagN F = 1) = fl) :
    Calls Try.prog 37 #[.agg #[.int .i64 i, .slice (some ⟨b, o, none⟩) n c], .int .i64 epoch] w fun e w' =>
      (∃ b' o' d, e = .returned (.tuple #[.agg #[.int .i64 (pageI F), .slice (some ⟨b', o', none⟩) (m - 25) d], .bool fl, .bool true]) ∧ LdX (fun q => q = b') w' m F (.slice (some ⟨b', o', none⟩) (m - 25) d) ∧ w.heap.size ≤ b' ∧ b' < w'.heap.size) ∧ Below w.heap.size w w' :=
  (change_any i b o n m c epoch F w hep hi h1 h2 h44 hm hc hc2 hb).mono fun e w' h => by
    obtain ⟨⟨h0, _⟩ | ⟨_, B, d, he, hB, hd1, hd2, _, hnew⟩, h2⟩ := h
    · exact absurd hyes h0
    · obtain ⟨b', o', rfl, hcell⟩ := hB.2.2 (by omega)
      have hlt : b' < w'.heap.size := by
        have := hcell 0 (by omega)
        obtain ⟨ob, hob, _⟩ := cells_of_cell this
        exact (Array.getElem?_eq_some_iff.1 hob).1
      rw [hfl] at he
      exact ⟨⟨b', o', d, he, ⟨b', o', d, rfl, rfl, hd1, hd2, hB⟩, hnew b' o' rfl, hlt⟩, h2⟩
/-- What stands while Read runs: the box of the epoch, the results' cells, the iterator's box. -/
def RdFix (n0 Bs : Nat) (M : DM) (first count epoch : Nat) (W : World) : Prop :=
  Boxed W n0 3 (.int .i64 (epoch : Nat)) ∧ Boxed W (n0 + 1) 32 (.slice none 0 0) ∧ Boxed W (n0 + 1 + 1) 29 (.int .i64 0) ∧ W.heap[Bs]? = some (.cells #[.pointer (some ⟨M.p, 0, none⟩), .int .i64 (first : Nat), .int .i64 (count : Nat)] 80 (0, 0))
theorem RdFix.own {β : Type} {B n0 Bs : Nat} {M : DM} {first count epoch : Nat} : OwnFrom B (fun (_ : β) W => RdFix n0 Bs M first count epoch W) := fun x A C row hs hg hr =>
  ⟨fixed_own (B := B) x A C row hs.1 hg hr, fixed_own (B := B) x A C row hs.2.1 hg hr, fixed_own (B := B) x A C row hs.2.2.1 hg hr, fixed_own (B := B) x A C row hs.2.2.2 hg hr⟩
theorem RdFix.kept {n0 n1 bG bg Bs : Nat} {M : DM} {first count epoch : Nat} {W W' : World} (h : RdFix n0 Bs M first count epoch W) (k : Rb n0 n1 bG bg W W') (h1 : n0 + 2 < n1) (h2 : Bs < n1) (h3 : n0 + 2 < bG ∧ n0 + 2 < bg) (h4 : Bs ≠ bG ∧ Bs ≠ bg) : RdFix n0 Bs M first count epoch W' :=
  ⟨(k.fx _ (by omega) (by omega) (by omega)).trans h.1, (k.fx _ (by omega) (by omega) (by omega)).trans h.2.1, (k.fx _ (by omega) (by omega) (by omega)).trans h.2.2.1, (k.fx _ h2 h4.1 h4.2).trans h.2.2.2⟩
theorem own_lower {W : World} {b0 b1 e size n : Nat} {v : Value} {xs : List Value} (h : W.ownsRow b1 e size v n xs) (hb : b0 ≤ b1) : W.ownsRow b0 e size v n xs := by
  refine ⟨h.1, ?_⟩
  rcases h.2 with h | ⟨g, cap, cur, h1, h2, h3⟩
  · exact .inl h
  · exact .inr ⟨g, cap, cur, h1, Nat.le_trans hb h2, h3⟩
theorem read_fin {w W : World} {n0 n1 bG bg m D k first count epoch : Nat} {S : DS} {gs : List (List Nat)} {g : List Nat} {X : Nat → Prop} {vG vg : Value} {vs : List Value} {ls : List (Int × Value)} (h : GP w n1 bG bg m (fun i => S.now (first + i)) gs g X vG vg vs ls W) (hw : n0 = w.heap.size) (h01 : n0 + 2 < n1) (o' : Obj)
    (hD : W.heap[D]? = some (.deferred (some []))) (hm : m = S.size - 20) (hk : k ≤ count) (hch : ∀ i, i < k → chAt S first epoch i) (hno : k < count → ¬ chAt S first epoch k) (hgs : gs = (gTo (lastB S first) k).1) (e1 : ∃ c, W.heap[n0 + 1]? = some (.cells c 32 (0, 0))) (e2 : ∃ c, W.heap[n0 + 1 + 1]? = some (.cells c 29 (0, 0))) (hDw : n1 ≤ D) :
    ReadP S first count epoch w (.returned (.tuple #[vG, .int .i64 0])) (((W.setCell ⟨n0 + 1, 0, none⟩ vG).setCell ⟨n0 + 1 + 1, 0, none⟩ (.int .i64 0)).putObj D o') := by
  obtain ⟨h1, h2, h3, h4, h5, h6, h7, h8, h9, h10, h11⟩ := h
  have hDl : D < W.heap.size := (Array.getElem?_eq_some_iff.1 hD).1
  have hDk : ((W.setCell ⟨n0 + 1, 0, none⟩ vG).setCell ⟨n0 + 1 + 1, 0, none⟩ (.int .i64 0)).heap[D]? = some (.deferred (some [])) := ((Below.heap_setCell _ _ _ _ (by show D ≠ n0 + 1 + 1; omega)).trans (Below.heap_setCell _ _ _ _ (by show D ≠ n0 + 1; omega))).trans hD
  have q : ∀ {B : Nat}, B < n1 → vG.ownBlock = none ∨ vG.ownBlock ≠ some B := fun {B} hB => by
    cases hv : vG.ownBlock with
    | none => exact .inl rfl
    | some q => exact .inr (fun e => by injection e with e; have := (h3.lt q hv).1; omega)
  have hown := ownsRow_putObj ((h3.kept (grownBy_setCell' W (n0 + 1) vG) (q (by omega))).kept (grownBy_setCell' _ (n0 + 1 + 1) (.int .i64 0)) (q (by omega))) o' hDk rfl
  have hsz : (((W.setCell ⟨n0 + 1, 0, none⟩ vG).setCell ⟨n0 + 1 + 1, 0, none⟩ (.int .i64 0)).putObj D o').heap.size = W.heap.size := by simp [World.setCell, World.putObj]
  have hkp : KeepX X W (((W.setCell ⟨n0 + 1, 0, none⟩ vG).setCell ⟨n0 + 1 + 1, 0, none⟩ (.int .i64 0)).putObj D o') := fun b o v hb hv => by
    have hb1 := (h7 b hb).1
    refine cell_kept ?_ (grownBy_putObj' _ D o') (fun r e => by cases e; exact ⟨_, hDk, rfl⟩)
    refine (World.cell?_of_block (w := W) (a := ⟨b, o, none⟩) ?_).trans hv
    exact (Below.heap_setCell _ _ _ _ (by show b ≠ n0 + 1 + 1; omega)).trans (Below.heap_setCell _ _ _ _ (by show b ≠ n0 + 1; omega))
  refine ⟨⟨k, vG, vs, X, hk, hch, hno, rfl, ?_, fun j u g' a b => ?_, fun b hb => ⟨?_, ?_, (h7 b hb).2.2.1⟩⟩, ?_⟩
  · rw [← hgs]; exact own_lower hown (by omega)
  · rw [← hgs] at b
    rw [← hm]
    exact (h4 j u g' a b).keep hkp fun _ x => x
  · have := (h7 b hb).1; omega
  · rw [hsz]; exact (h7 b hb).2.1
  · exact ((h8.setCell (p := ⟨n0 + 1, 0, none⟩) (by show w.heap.size ≤ n0 + 1; omega) _).setCell (p := ⟨n0 + 1 + 1, 0, none⟩) (by show w.heap.size ≤ n0 + 1 + 1; omega) _).trans (belowK_b (w := w) (Nat.le_refl _) _ D _ _ (by omega) hDk rfl rfl)
/-- How a round of Read is left. -/
def RdBP (w : World) (M : DM) (S : DS) (first count epoch n0 q0 m : Nat) (xs : List (Nat × Nat)) (W : World) (e : Exit) (W' : World) : Prop :=
  Rb n0 (q0 + 4) (q0 + 1) (q0 + 1 + 1) W W' ∧ W.heap[q0 + 1 + 1 + 1]? = some (.cells #[.pointer (some ⟨M.p, 0, none⟩), .int .i64 (first : Nat), .int .i64 (count : Nat)] 80 (0, 0)) ∧ ((e = .normal ∧ ((∀ x ∈ xs, chAt S first epoch x.1) ∧ GI w (q0 + 4) (q0 + 1) (q0 + 1 + 1) m (fun i => S.now (first + i)) (gsOf (lastB S first) (xs.map Prod.fst)).1 (gsOf (lastB S first) (xs.map Prod.fst)).2 W') ∧ RdFix n0 (q0 + 1 + 1 + 1) M first count epoch W') ∨
      (e = .exit 0 ∧ ∃ pre' x, xs = pre' ++ [x] ∧ ¬ chAt S first epoch x.1 ∧ ((∀ x ∈ pre', chAt S first epoch x.1) ∧ GI w (q0 + 4) (q0 + 1) (q0 + 1 + 1) m (fun i => S.now (first + i)) (gsOf (lastB S first) (pre'.map Prod.fst)).1 (gsOf (lastB S first) (pre'.map Prod.fst)).2 W') ∧ RdFix n0 (q0 + 1 + 1 + 1) M first count epoch W'))
theorem cells_newR2' (W : World) (a b : Value) (T n : Nat) (h : W.heap.size = n) : ∀ (j : Nat) (u : Value), [a, b][j]? = some u → (W.alloc (.cells #[a, b] T)).cell? ((⟨n, 0, none⟩ : Addr).add j) = some u := h ▸ cells_newR2 W a b T
theorem cells_newR1' (W : World) (a : Value) (T n : Nat) (h : W.heap.size = n) : ∀ (j : Nat) (u : Value), [a][j]? = some u → (W.alloc (.cells #[a] T)).cell? ((⟨n, 0, none⟩ : Addr).add j) = some u := h ▸ cells_newR1 W a T
theorem own_sl {W : World} {base e size k : Nat} {v : Value} {xs : List Value} (h : W.ownsRow base e size v k xs) : ∃ A c, v = .slice A k c := by
  rcases h.2 with ⟨rfl, h0⟩ | ⟨g, cap, _, rfl, _⟩
  · exact ⟨none, 0, by rw [h0]⟩
  · exact ⟨_, cap, rfl⟩
theorem boxed_at {W : World} {q : Nat} (h : q = W.heap.size) (t : TypeId) (v : Value) : Boxed (W.alloc (.cells #[v] t)) q t v := h ▸ Boxed.new W t v
set_option maxRecDepth 100000 in
set_option maxHeartbeats 16000000 in
theorem read_at [Spare] (base first count epoch : Nat) (M : DM) (S : DS) (w : World) (hD : Dsk w base M S) (hup : S.down = false) (hpl : plB S.N first count) (he : isEpochB epoch = true) :
    Calls Try.prog 13 #[.pointer (some ⟨M.p, 0, none⟩), .int .i64 first, .int .i64 count, .int .i64 epoch] w (ReadP S first count epoch w) := by
  have hN := hD.hN.2
  obtain ⟨p0, p1, p2, p3⟩ := hpl
  have hfc : first + count ≤ S.N := by omega
  have KP := Lib.hid (fun (W : World) (l : Below w.heap.size w W) => (placeOf_any first count W base M S (hD.below l) (by omega) (by omega) (by omega)).mono (R' := fun e w' => e = .returned (.tuple #[.agg #[.pointer (some ⟨M.p, 0, none⟩), .int .i64 first, .int .i64 count], .int .i64 0]) ∧ Below W.heap.size W w') (fun e w' h => by
    obtain ⟨⟨_, h1⟩ | ⟨h0, _⟩, h2⟩ := h
    · exact ⟨h1, h2⟩
    · exact absurd ⟨p0, p1, p2, p3⟩ h0))
  have HE := Lib.hid he
  have HD := Lib.hid hD
  clear hD he
  refine (callsIn_wide (n := 8)).1 ?_
  refine callsIn_of_wp_marks Try.func13 rfl trivial ?_ rfl
  simp only [Try.ntmps13, List.size_toArray, List.length_cons, List.length_nil, Nat.reduceAdd, Nat.reduceSub, Array.replicate_succ, Array.replicate_zero, List.push_toArray, List.append_toArray, List.nil_append, List.cons_append]
  gi_upto_region 1 with (fail)
  obtain ⟨n0, hn0⟩ : ∃ n0, n0 = w.heap.size := ⟨_, rfl⟩
  obtain ⟨B0, hB0⟩ : ∃ B0 : World, B0 = ((w.alloc (.cells #[.int .i64 epoch] 3)).alloc (.cells #[.slice none 0 0] 32)).alloc (.cells #[.int .i64 0] 29) := ⟨_, rfl⟩
  have hb0 : Below n0 w B0 := by
    subst hB0 hn0
    exact (((Below.refl _ _).alloc (Nat.le_refl _) _).alloc (by simp) _).alloc (by simp; omega) _
  have hs0 : B0.heap.size = n0 + 3 := by subst hB0 hn0; simp
  have e0 : Boxed B0 n0 3 (.int .i64 epoch) := by subst hB0 hn0; exact ((Boxed.new _ _ _).alloc _).alloc _
  have e1 : Boxed B0 (n0 + 1) 32 (.slice none 0 0) := by subst hB0 hn0; exact (boxed_at (by simp) _ _).alloc _
  have e2 : Boxed B0 (n0 + 1 + 1) 29 (.int .i64 0) := by subst hB0 hn0; exact boxed_at (by simp) _ _
  rw [← hB0]
  rw [← hn0]
  have HB0 := Lib.hid hb0
  have KP1 := Lib.hid (KP.out B0 (by rw [← hn0]; exact hb0))
  have E := Lib.hid (And.intro e0 (And.intro e1 e2))
  have HN0 := Lib.hid hn0
  clear hb0 hB0 e0 e1 e2 KP hn0
  gi_wp2_with (first
    | (refine ⟨trivial, ?_⟩; gi_at_call 34; refine CallsIn.mono (callsIn_wide.2 KP1.out) ?_; rintro _ w1 ⟨rfl, l1⟩; have L1 := Lib.hid l1; have hs1 := l1.size; have hl1 : n0 < w1.heap.size := (by omega); have c0 := Boxed.cell (show Boxed w1 n0 3 (.int .i64 epoch) from (l1.block n0 (by omega)).trans E.out.1); clear l1)
    | (refine ⟨trivial, ?_⟩; gi_at_call 35; refine CallsIn.mono (callsIn_wide.2 (isEpoch_any _ _)) ?_; rintro _ _ ⟨rfl, rfl⟩; rw [HE.out])
    | (refine ⟨trivial, ?_⟩; gi_at_call 36; refine CallsIn.mono (callsIn_wide.2 (slots_any _ _ _ _)) ?_; rintro _ _ ⟨rfl, rfl⟩))
  obtain ⟨m, hm⟩ : ∃ m, m = S.size - 20 := ⟨_, rfl⟩
  have hS := HD.out.hS
  obtain ⟨q0, hq0⟩ : ∃ q0, q0 = w1.heap.size := ⟨_, rfl⟩
  obtain ⟨Wl, hWl⟩ : ∃ Wl : World, Wl = (((w1.alloc (.cells #[.pointer (some ⟨M.p, 0, none⟩), .int .i64 (first : Nat), .int .i64 (count : Nat)] 80)).alloc (.cells #[.slice none 0 0] 32)).alloc (.cells #[.slice none 0 0] 38)).alloc (.cells #[.pointer (some ⟨M.p, 0, none⟩), .int .i64 (first : Nat), .int .i64 (count : Nat)] 80) := ⟨_, rfl⟩
  have hsl : Wl.heap.size = q0 + 4 := by subst hWl hq0; simp
  have hbl1 : Below w1.heap.size w1 Wl := by
    subst hWl
    exact ((((Below.refl _ _).alloc (Nat.le_refl _) _).alloc (by simp) _).alloc (by simp; omega) _).alloc (by simp; omega) _
  have hblB : Below B0.heap.size B0 Wl := L1.out.trans (hbl1.mono L1.out.size)
  have hbl : Below n0 w Wl := HB0.out.trans (hblB.mono (by omega))
  have bG : Boxed Wl (q0 + 1) 32 (.slice none 0 0) := by subst hWl hq0; exact ((boxed_at (by simp) _ _).alloc _).alloc _
  have bg : Boxed Wl (q0 + 1 + 1) 38 (.slice none 0 0) := by subst hWl hq0; exact (boxed_at (by simp) _ _).alloc _
  have hBs : Wl.heap[q0 + 1 + 1 + 1]? = some (.cells #[.pointer (some ⟨M.p, 0, none⟩), .int .i64 (first : Nat), .int .i64 (count : Nat)] 80 (0, 0)) := by
    have := World.alloc_heap_new (((w1.alloc (.cells #[.pointer (some ⟨M.p, 0, none⟩), .int .i64 (first : Nat), .int .i64 (count : Nat)] 80)).alloc (.cells #[.slice none 0 0] 32)).alloc (.cells #[.slice none 0 0] 38)) (.cells #[.pointer (some ⟨M.p, 0, none⟩), .int .i64 (first : Nat), .int .i64 (count : Nat)] 80)
    rw [← hWl] at this
    simpa [← hq0] using this
  have g0 : Boxed Wl n0 3 (.int .i64 (epoch : Nat)) := (hblB.block n0 (by omega)).trans E.out.1
  have g1 : Boxed Wl (n0 + 1) 32 (.slice none 0 0) := (hblB.block (n0 + 1) (by omega)).trans E.out.2.1
  have g2 : Boxed Wl (n0 + 1 + 1) 29 (.int .i64 0) := (hblB.block (n0 + 1 + 1) (by omega)).trans E.out.2.2
  have hn0q : n0 + 3 ≤ q0 := by omega
  have hnw := HN0.out
  rw [← hWl, ← hq0]
  clear hWl hq0 hl1 c0 hs1 hbl1
  obtain ⟨i0, hi0, hz0, hz1, hz2⟩ := infoPartsR infoCh
  obtain ⟨i1, hi1, hy0, hy1, hy2⟩ := infoPartsR infoGr
  have hep : 1 ≤ epoch := by have := HE.out; unfold isEpochB at this; simp at this; omega
  have hsq := slots_seq (8 - 1) (by omega) (q0 + 1 + 1 + 1) base first count M S w HD.out hup hfc Wl (hnw ▸ hbl) hBs
  have GP0 : GI w (q0 + 4) (q0 + 1) (q0 + 1 + 1) m (fun i => S.now (first + i)) [] [] Wl :=
    ⟨fun _ => False, .slice none 0 0, .slice none 0 0, [], [], bG, bg, World.ownsRow_nil _ _ _ _, fun j v g' a b => by simp at a, World.ownsRow_nil _ _ _ _, ⟨rfl, fun j i x a b => by simp at a⟩, fun b hb => hb.elim, hnw ▸ hbl, by omega, fun _ => rfl, fun _ => rfl⟩
  refine SeqMem.loopA rfl (by omega) (gf := 57) (lb := #[.pointer (some ⟨q0 + 1 + 1 + 1, 0, none⟩)]) rfl trivial (enters_of Try.func57 (by kernel_rfl) rfl)
    hsq (fun h k => KpE.t h k) (KpE.b (by omega) (by omega)) (Below.refl _ _) (fun _ => rfl)
    (fun pre W => ((∀ x ∈ pre, chAt S first epoch x.1) ∧ GI w (q0 + 4) (q0 + 1) (q0 + 1 + 1) m (fun i => S.now (first + i)) (gsOf (lastB S first) (pre.map Prod.fst)).1 (gsOf (lastB S first) (pre.map Prod.fst)).2 W) ∧ RdFix n0 (q0 + 1 + 1 + 1) M first count epoch W)
    (fun cd pre W => cd = .exit 0 ∧ ∃ pre' x, pre = pre' ++ [x] ∧ ¬ chAt S first epoch x.1 ∧ ((∀ x ∈ pre', chAt S first epoch x.1) ∧ GI w (q0 + 4) (q0 + 1) (q0 + 1 + 1) m (fun i => S.now (first + i)) (gsOf (lastB S first) (pre'.map Prod.fst)).1 (gsOf (lastB S first) (pre'.map Prod.fst)).2 W) ∧ RdFix n0 (q0 + 1 + 1 + 1) M first count epoch W)
    (fun pre A C row hs hg hr => ⟨⟨hs.1.1, GI.own (B := Wl.heap.size) (by omega) (gsOf (lastB S first) (pre.map Prod.fst)) A C row hs.1.2 hg hr⟩, RdFix.own pre A C row hs.2 hg hr⟩)
    (fun cd pre A C row hs hg hr => by
      obtain ⟨h1, pre', x, h2, h3, ⟨h4, h5⟩, h6⟩ := hs
      exact ⟨h1, pre', x, h2, h3, ⟨h4, GI.own (B := Wl.heap.size) (by omega) (gsOf (lastB S first) (pre'.map Prod.fst)) A C row h5 hg hr⟩, RdFix.own pre A C row h6 hg hr⟩)
    ⟨⟨fun x hx => by simp at hx, GP0⟩, g0, g1, g2, hBs⟩
    (fun pre x a' W => (((∀ x ∈ pre, chAt S first epoch x.1) ∧ GI w (q0 + 4) (q0 + 1) (q0 + 1 + 1) m (fun i => S.now (first + i)) (gsOf (lastB S first) (pre.map Prod.fst)).1 (gsOf (lastB S first) (pre.map Prod.fst)).2 W) ∧ RdFix n0 (q0 + 1 + 1 + 1) M first count epoch W) ∧ SlY S first count w.heap.size x W ∧ ∃ B1, W.heap[B1]? = some (.cells #[.int .i64 (x.1 : Nat), .slice (some ⟨x.2, 0, none⟩) S.size S.size] 90 (0, 0)) ∧ a' = { tmps := #[Value.pointer (some ⟨M.p, 0, none⟩), .int .i64 (first : Nat), .int .i64 (count : Nat), .int .i64 (epoch : Nat), undef, undef, undef, .pointer (some ⟨n0, 0, none⟩), .pointer (some ⟨n0 + 1, 0, none⟩), .pointer (some ⟨n0 + 1 + 1, 0, none⟩), .pointer (some ⟨q0, 0, none⟩), .int .i64 0, .pointer (some ⟨q0 + 1, 0, none⟩), .pointer (some ⟨q0 + 1 + 1, 0, none⟩), .pointer (some ⟨B1, 0, none⟩), .int .i64 0, undef, undef, undef, .tuple #[.agg #[.pointer (some ⟨M.p, 0, none⟩), .int .i64 (first : Nat), .int .i64 (count : Nat)], .int .i64 0], .pointer (some ⟨M.p, 0, none⟩), .int .i64 (first : Nat), .int .i64 (count : Nat), .tuple #[.agg #[.pointer (some ⟨M.p, 0, none⟩), .int .i64 (first : Nat), .int .i64 (count : Nat)], .int .i64 0], .agg #[.pointer (some ⟨M.p, 0, none⟩), .int .i64 (first : Nat), .int .i64 (count : Nat)], .int .i64 0, .int .i64 0, .bool false, .bool false, .int .i64 (epoch : Nat), .bool true, .bool false, .bool false, .agg #[.pointer (some ⟨M.p, 0, none⟩), .int .i64 (first : Nat), .int .i64 (count : Nat)], .func (.func 57) #[] #[.pointer (some ⟨q0 + 1 + 1 + 1, 0, none⟩)], .agg #[.int .i64 (x.1 : Nat), .slice (some ⟨x.2, 0, none⟩) S.size S.size], .int .i64 0, undef, undef, undef, undef, undef, undef, undef, undef, undef, undef, undef, undef, undef, undef, undef, undef, undef, undef, undef, undef, undef, undef], defers := [] })
    (fun pre x a' W1 l o o' hl hs ho hc => by
      obtain ⟨⟨⟨h1, h2⟩, h3⟩, h4, B1, h5, h6⟩ := hs
      exact ⟨⟨⟨h1, (GI.own (B := Wl.heap.size) (by omega)).putObj (s := gsOf (lastB S first) (pre.map Prod.fst)) o' h2 hl ho hc⟩, RdFix.own.putObj (s := ()) o' h3 hl ho hc⟩, (slY_own (B := Wl.heap.size)).putObj o' h4 hl ho hc, B1, (fixed_own (B := Wl.heap.size)).putObj (s := ()) o' h5 hl ho hc, h6⟩)
    ?assign
    (fun xs W e a' W' => RdBP w M S first count epoch n0 q0 m xs W e W')
    ?body
    (fun xs W a' W' h => by
      obtain ⟨hr, hb, ⟨_, h1, h2⟩ | ⟨h, _⟩⟩ := h
      · exact ⟨hr.ko, ⟨hnw ▸ hr.bl, hr.fx _ (by omega) (by omega) (by omega)⟩, h1, h2⟩
      · cases h)
    (fun xs W a' W' h => by
      obtain ⟨hr, hb, ⟨h, _⟩ | ⟨h, _⟩⟩ := h
      · cases h
      · cases h)
    (fun xs W id a' W' h => by
      obtain ⟨hr, hb, ⟨h, _⟩ | ⟨h, h2⟩⟩ := h
      · cases h
      · cases h
        exact ⟨hr.ko, rfl, h2⟩)
    (fun xs W e a' W' h => by
      obtain ⟨hr, hb, ⟨h, _⟩ | ⟨h, _⟩⟩ := h
      · exact .inl h
      · exact .inr (.inr ⟨_, h⟩))
    ?done ?stop
  case assign =>
    rintro l pre x W K hI hy hlen hK
    have HKK := Lib.hid hK
    have HI := Lib.hid hI
    have HY := Lib.hid hy
    clear hK hI hy hsq GP0 hnw
    gi_wp2
    have hnw := HN0.out
    have hl3 : Below W.heap.size W (W.alloc (.cells #[.int .i64 (x.1 : Nat), .slice (some ⟨x.2, 0, none⟩) S.size S.size] 90)) := (Below.refl _ W).alloc (Nat.le_refl _) _
    have hsW : q0 + 4 ≤ W.heap.size := by
      obtain ⟨X, vG, vg, vs, ls, hp⟩ := HI.out.1.2
      exact hp.2.2.2.2.2.2.2.2.1
    exact HKK.out _ _ ⟨⟨⟨HI.out.1.1, (GI.own (B := Wl.heap.size) (by omega)).alloc (s := gsOf (lastB S first) (pre.map Prod.fst)) _ HI.out.1.2⟩, (RdFix.own (B := Wl.heap.size)).alloc (s := ()) _ HI.out.2⟩, (slY_own (B := Wl.heap.size)).alloc _ HY.out, W.heap.size, World.alloc_heap_new _ _, rfl⟩ (KeepsOthers.alloc _ _) (KpE.below hl3 (by omega) (by omega))
  case body =>
    rintro l pre x a' W ⟨⟨⟨hch, hgi⟩, hF⟩, hY, B1, hB1, rfl⟩ hlt
    obtain ⟨hrow, hx2, hx1⟩ := hY
    obtain ⟨gs, g, hgg⟩ : ∃ gs g, gsOf (lastB S first) (pre.map Prod.fst) = (gs, g) := ⟨_, _, rfl⟩
    rw [hgg] at hgi
    have hln := gsOf_len (lastB S first) (pre.map Prod.fst)
    rw [hgg, List.length_map] at hln
    have hnext : gsOf (lastB S first) ((pre ++ [x]).map Prod.fst) = gStep (lastB S first) (gs, g) x.1 := by rw [List.map_append, ← hgg]; exact gsOf_snoc _ _ _
    obtain ⟨X, vG, vg, vs, ls, hG⟩ := hgi
    obtain ⟨aG, cpG, rfl⟩ := own_sl hG.2.2.1
    obtain ⟨ag, cpg, rfl⟩ := own_sl hG.2.2.2.2.1
    have hsW : q0 + 4 ≤ W.heap.size := hG.2.2.2.2.2.2.2.2.1
    have s0 : W.cell? ⟨B1, 0, none⟩ = some (.int .i64 (x.1 : Nat)) := by simp [World.cell?, hB1]
    have s1 : W.cell? ⟨B1, 1, none⟩ = some (.slice (some ⟨x.2, 0, none⟩) S.size S.size) := by simp [World.cell?, hB1]
    have ce := hF.1.cell
    have hbytes := (hrow.bytes (o := 0) (m := S.size) (by omega)).congr (G := S.now (first + x.1)) (fun i hi => by simp)
    have HG := Lib.hid hG
    have HF := Lib.hid hF
    have HX := Lib.hid hnext
    have HGG := Lib.hid hgg
    have HC := Lib.hid hch
    have HB := Lib.hid hbytes
    have hx20 := Nat.le_trans (Nat.le_of_eq HN0.out) hx2
    have HM := Lib.hid hm
    clear hG hF hnext hgg hch hbytes hrow hB1 hx2 hsq GP0 hnw
    have hm1 : m + 20 ≤ S.size := by omega
    have hm2 : S.size ≤ m + 20 := by omega
    clear hm
    by_cases hx : chAt S first epoch x.1
    · obtain ⟨fl, hfl⟩ : ∃ fl, decide (flagN (S.now (first + x.1)) = 1) = fl := ⟨_, rfl⟩
      have KC := Lib.hid (change_yes x.1 x.2 0 S.size m S.size epoch (S.now (first + x.1)) W hep (by omega) (by omega) (by omega) (by omega) (by omega) (Nat.le_refl _) (by omega) HB.out (HM.out ▸ hx) fl hfl)
      have HFl := Lib.hid hfl
      have HXx := Lib.hid hx
      clear hx hfl
      obtain ⟨pg, hpg⟩ : ∃ pg, pg = pageI (S.now (first + x.1)) := ⟨_, rfl⟩
      rw [← hpg] at KC
      have HPg := Lib.hid hpg
      clear hpg
      cases fl
      · gi_wp2_with (first
        | (refine ⟨trivial, ?_⟩; gi_at_call 37; refine CallsIn.mono (callsIn_wide.2 KC.out) ?_; rintro _ w5 ⟨⟨b', o', d, rfl, hld, hb1, hb2⟩, l5⟩; have hl5 := l5.size; have LV : Below W.heap.size W ((w5.alloc (.cells #[.int .i64 pg, .slice (some ⟨b', o', none⟩) (m - 25) d] 44)).alloc (.cells #[.int .i64 pg, .slice (some ⟨b', o', none⟩) (m - 25) d] 44)) := (l5.alloc hl5 _).alloc (by simp <;> omega) _; have GV := HG.out.ext LV (fun q => q = b') (fun q e => by subst e; exact ⟨hb1, by simp <;> omega⟩); have HLd := Lib.hid (hld.keep (X' := fun q => X q ∨ q = b') (KeepX.heap (W' := (w5.alloc (.cells #[.int .i64 pg, .slice (some ⟨b', o', none⟩) (m - 25) d] 44)).alloc (.cells #[.int .i64 pg, .slice (some ⟨b', o', none⟩) (m - 25) d] 44)) fun q e => by subst e; exact (Below.heap_alloc _ _ _ (by simp <;> omega)).trans (Below.heap_alloc _ _ _ hb2)) (fun q e => .inr e)); have HGV := Lib.hid GV; have HLV := Lib.hid LV; have L5 := Lib.hid l5; have cg := Boxed.cell (show Boxed w5 (q0 + 1 + 1) 38 (.slice ag g.length cpg) from (l5.block _ (by omega)).trans HG.out.2.1); have hq1 : q0 + 1 + 1 < w5.heap.size := (by omega); have hq2 : q0 + 1 < w5.heap.size := (by omega); clear hld hb1 hb2 l5 LV GV)
        | (gi_at_builtin; refine wpListIn_append_own_at _ rfl _ _ 38 rfl (q0 + 4) 44 i0 (.agg #[.int .i64 0, .slice none 0 0]) 2 32 Try.underlying38 hi0 hz0 hz1 hz2 rfl (by decide) _ _ _ rfl HGV.out.2.2.2.2.1 ⟨w5.heap.size + 1, 0, none⟩ 1 1 [.int .i64 pg, .slice (some ⟨b', o', none⟩) (m - 25) d] rfl rfl (cells_newR2' _ _ _ _ _ (World.size_alloc _ _)) (by simp [Value.oneCell']) (by unfold maxLen; omega) (by omega) (by simp <;> omega) ?_; intro v2 w9 hown' hgrow _ hat; obtain ⟨g9, cap, rfl⟩ := ownsRow_succ hown'; have G9 := GI.push HGV.out.1 HGV.out.2.1 HGV.out.2.2.1 HGV.out.2.2.2.1 HGV.out.2.2.2.2.1 HGV.out.2.2.2.2.2.1 HGV.out.2.2.2.2.2.2.1 HGV.out.2.2.2.2.2.2.2.1 HGV.out.2.2.2.2.2.2.2.2.1 HGV.out.2.2.2.2.2.2.2.2.2.2 (i := x.1) (by rw [← HN0.out]; omega) (by rw [← HN0.out]; omega) (by omega) (by omega) ⟨HPg.out, HLd.out⟩ hown' hgrow (hat.imp id fun e => ⟨_, e, Nat.le_refl _⟩); have b9g : Boxed w9 (q0 + 1 + 1) 38 (.slice ag g.length cpg) := HGV.out.2.1.kept hgrow (HGV.out.2.1.not_row (by decide) HGV.out.2.2.2.2.1); have b9G : Boxed w9 (q0 + 1) 32 (.slice aG gs.length cpG) := HGV.out.1.kept hgrow (HGV.out.1.not_row (by decide) HGV.out.2.2.2.2.1); have c9g := b9g.cell; have f9g := b9g.frozen; have c9G := b9G.cell; have f9G := b9G.frozen; have hg9 := hgrow.size; have hq3 : q0 + 1 + 1 < w9.heap.size := b9g.lt; have hq4 : q0 + 1 < w9.heap.size := b9G.lt; have HG9 := Lib.hid G9; have HGr := Lib.hid hgrow; clear G9 hown' hgrow hat b9g b9G cg))
        have hnw := HN0.out
        have hR : Rb n0 (q0 + 4) (q0 + 1) (q0 + 1 + 1) W (w9.setCell ⟨q0 + 1 + 1, 0, none⟩ (.slice (some ⟨g9, 0, none⟩) (g.length + 1) cap)) :=
          ((Rb.below HLV.out (by omega) hsW).trans (Rb.own HGr.out HGV.out.2.2.2.2.1 (by omega) HGV.out.2.2.2.2.2.2.2.2.1)).trans (Rb.set (.inr rfl) (by omega) _)
        unfold RdBP
        refine ⟨hR, HF.out.2.2.2, .inl ⟨rfl, ⟨fun y hy => ?_, ?_⟩, HF.out.kept hR (by omega) (by omega) (by omega) (by omega)⟩⟩
        · rcases List.mem_append.1 hy with h | h
          · exact HC.out y h
          · rw [List.mem_singleton.1 h]; exact HXx.out
        · have e : gStep (lastB S first) (gs, g) x.1 = (gs, g ++ [x.1]) := by unfold gStep lastB; rw [HFl.out]; rfl
          rw [HX.out, e]
          exact ⟨_, _, _, _, _, HG9.out⟩
      · gi_wp2_with (first
        | (refine ⟨trivial, ?_⟩; gi_at_call 37; refine CallsIn.mono (callsIn_wide.2 KC.out) ?_; rintro _ w5 ⟨⟨b', o', d, rfl, hld, hb1, hb2⟩, l5⟩; have hl5 := l5.size; have LV : Below W.heap.size W ((w5.alloc (.cells #[.int .i64 pg, .slice (some ⟨b', o', none⟩) (m - 25) d] 44)).alloc (.cells #[.int .i64 pg, .slice (some ⟨b', o', none⟩) (m - 25) d] 44)) := (l5.alloc hl5 _).alloc (by simp <;> omega) _; have GV := HG.out.ext LV (fun q => q = b') (fun q e => by subst e; exact ⟨hb1, by simp <;> omega⟩); have HLd := Lib.hid (hld.keep (X' := fun q => X q ∨ q = b') (KeepX.heap (W' := (w5.alloc (.cells #[.int .i64 pg, .slice (some ⟨b', o', none⟩) (m - 25) d] 44)).alloc (.cells #[.int .i64 pg, .slice (some ⟨b', o', none⟩) (m - 25) d] 44)) fun q e => by subst e; exact (Below.heap_alloc _ _ _ (by simp <;> omega)).trans (Below.heap_alloc _ _ _ hb2)) (fun q e => .inr e)); have HGV := Lib.hid GV; have HLV := Lib.hid LV; have L5 := Lib.hid l5; have cg := Boxed.cell (show Boxed w5 (q0 + 1 + 1) 38 (.slice ag g.length cpg) from (l5.block _ (by omega)).trans HG.out.2.1); have hq1 : q0 + 1 + 1 < w5.heap.size := (by omega); have hq2 : q0 + 1 < w5.heap.size := (by omega); clear hld hb1 hb2 l5 LV GV)
        | (gi_at_builtin; refine wpListIn_append_own_at _ rfl _ _ 38 rfl (q0 + 4) 44 i0 (.agg #[.int .i64 0, .slice none 0 0]) 2 32 Try.underlying38 hi0 hz0 hz1 hz2 rfl (by decide) _ _ _ rfl HGV.out.2.2.2.2.1 ⟨w5.heap.size + 1, 0, none⟩ 1 1 [.int .i64 pg, .slice (some ⟨b', o', none⟩) (m - 25) d] rfl rfl (cells_newR2' _ _ _ _ _ (World.size_alloc _ _)) (by simp [Value.oneCell']) (by unfold maxLen; omega) (by omega) (by simp <;> omega) ?_; intro v2 w9 hown' hgrow _ hat; obtain ⟨g9, cap, rfl⟩ := ownsRow_succ hown'; have G9 := GI.push HGV.out.1 HGV.out.2.1 HGV.out.2.2.1 HGV.out.2.2.2.1 HGV.out.2.2.2.2.1 HGV.out.2.2.2.2.2.1 HGV.out.2.2.2.2.2.2.1 HGV.out.2.2.2.2.2.2.2.1 HGV.out.2.2.2.2.2.2.2.2.1 HGV.out.2.2.2.2.2.2.2.2.2.2 (i := x.1) (by rw [← HN0.out]; omega) (by rw [← HN0.out]; omega) (by omega) (by omega) ⟨HPg.out, HLd.out⟩ hown' hgrow (hat.imp id fun e => ⟨_, e, Nat.le_refl _⟩); have b9g : Boxed w9 (q0 + 1 + 1) 38 (.slice ag g.length cpg) := HGV.out.2.1.kept hgrow (HGV.out.2.1.not_row (by decide) HGV.out.2.2.2.2.1); have b9G : Boxed w9 (q0 + 1) 32 (.slice aG gs.length cpG) := HGV.out.1.kept hgrow (HGV.out.1.not_row (by decide) HGV.out.2.2.2.2.1); have c9g := b9g.cell; have f9g := b9g.frozen; have c9G := b9G.cell; have f9G := b9G.frozen; have hg9 := hgrow.size; have hq3 : q0 + 1 + 1 < w9.heap.size := b9g.lt; have hq4 : q0 + 1 < w9.heap.size := b9G.lt; have HG9 := Lib.hid G9; have HGr := Lib.hid hgrow; clear G9 hown' hgrow hat b9g b9G cg)
        | (gi_at_builtin; refine wpListIn_append_own_at _ rfl _ _ 32 rfl (q0 + 4) 38 i1 (.slice none 0 0) 1 24 Try.underlying32 hi1 hy0 hy1 hy2 rfl (by decide) _ _ _ rfl (HG9.out.ext ((Below.refl _ _).alloc (Nat.le_refl _) (.cells #[.slice (some ⟨g9, 0, none⟩) (g.length + 1) cap] 38)) (fun _ => False) (fun _ h => h.elim)).2.2.1 ⟨w9.heap.size, 0, none⟩ 1 1 [.slice (some ⟨g9, 0, none⟩) (g.length + 1) cap] rfl rfl (cells_newR1' _ _ _ _ (size_set _ _ _)) (by simp [Value.oneCell']) (by unfold maxLen; omega) (by omega) (by simp <;> omega) ?_; intro v3 w10 hown2 hgrow2 _ hat2; obtain ⟨g10, cap2, rfl⟩ := ownsRow_succ hown2; have G10 := GI.close' (by simp) (HG9.out.ext ((Below.refl _ _).alloc (Nat.le_refl _) (.cells #[.slice (some ⟨g9, 0, none⟩) (g.length + 1) cap] 38)) (fun _ => False) (fun _ h => h.elim)) (by rw [← HN0.out]; omega) (by rw [← HN0.out]; omega) (by rw [← HN0.out]; omega) (by omega) (by omega) (by omega) hown2 hgrow2 (hat2.imp id fun e => ⟨_, e, Nat.le_refl _⟩); have GQ := HG9.out.ext ((Below.refl _ _).alloc (Nat.le_refl _) (.cells #[.slice (some ⟨g9, 0, none⟩) (g.length + 1) cap] 38)) (fun _ => False) (fun _ h => h.elim); have b10g : Boxed w10 (q0 + 1 + 1) 38 (.slice (some ⟨g9, 0, none⟩) (g.length + 1) cap) := GQ.2.1.kept hgrow2 (fun e => by have := (GQ.2.2.1.lt _ e.symm).1; omega); have b10G : Boxed w10 (q0 + 1) 32 (.slice aG gs.length cpG) := GQ.1.kept hgrow2 (GQ.1.not_row (by decide) GQ.2.2.1); have d10g := b10g.cell; have e10g := b10g.frozen; have d10G := b10G.cell; have e10G := b10G.frozen; have hq5 : q0 + 1 + 1 < w10.heap.size := b10g.lt; have hq6 : q0 + 1 < w10.heap.size := b10G.lt; have HG10 := Lib.hid G10; have HGr2 := Lib.hid hgrow2; have HGQ := Lib.hid GQ; clear G10 hown2 hgrow2 hat2 b10g b10G GQ))
        have hnw := HN0.out
        have hR : Rb n0 (q0 + 4) (q0 + 1) (q0 + 1 + 1) W ((w10.setCell ⟨q0 + 1, 0, none⟩ (.slice (some ⟨g10, 0, none⟩) (gs.length + 1) cap2)).setCell ⟨q0 + 1 + 1, 0, none⟩ (.slice none 0 0)) :=
          ((((((Rb.below HLV.out (by omega) hsW).trans (Rb.own HGr.out HGV.out.2.2.2.2.1 (by omega) HGV.out.2.2.2.2.2.2.2.2.1)).trans (Rb.set (.inr rfl) (by omega) _)).trans (Rb.below ((Below.refl _ _).alloc (Nat.le_refl _) _) (by omega) HG9.out.2.2.2.2.2.2.2.2.1)).trans (Rb.own HGr2.out HGQ.out.2.2.1 (by omega) HGQ.out.2.2.2.2.2.2.2.2.1)).trans (Rb.set (.inl rfl) (by omega) _)).trans (Rb.set (.inr rfl) (by omega) _)
        unfold RdBP
        refine ⟨hR, HF.out.2.2.2, .inl ⟨rfl, ⟨fun y hy => ?_, ?_⟩, HF.out.kept hR (by omega) (by omega) (by omega) (by omega)⟩⟩
        · rcases List.mem_append.1 hy with h | h
          · exact HC.out y h
          · rw [List.mem_singleton.1 h]; exact HXx.out
        · have e : gStep (lastB S first) (gs, g) x.1 = (gs ++ [g ++ [x.1]], []) := by unfold gStep lastB; rw [HFl.out]; rfl
          rw [HX.out, e]
          exact ⟨_, _, _, _, _, HG10.out⟩
    · have KC := Lib.hid (change_no x.1 x.2 0 S.size m S.size epoch (S.now (first + x.1)) W hep (by omega) (by omega) (by omega) (by omega) (by omega) (Nat.le_refl _) (by omega) HB.out (HM.out ▸ hx))
      have HXx := Lib.hid hx
      clear hx
      gi_wp2_with (refine ⟨trivial, ?_⟩; gi_at_call 37; refine CallsIn.mono (callsIn_wide.2 KC.out) ?_; rintro _ w5 ⟨rfl, l5⟩; have L5 := Lib.hid l5; clear l5)
      have hnw := HN0.out
      have hR : Rb n0 (q0 + 4) (q0 + 1) (q0 + 1 + 1) W (w5.alloc (.cells #[.int .i64 0, .slice none 0 0] 44)) := Rb.below (L5.out.alloc (L5.out.size) _) (by omega) hsW
      unfold RdBP
      refine ⟨hR, HF.out.2.2.2, .inr ⟨rfl, pre, x, rfl, HXx.out, ⟨HC.out, ?_⟩, HF.out.kept hR (by omega) (by omega) (by omega) (by omega)⟩⟩
      rw [HGG.out]
      exact GI.below ⟨X, _, _, vs, ls, HG.out⟩ (L5.out.alloc (L5.out.size) _)
  case done =>
    rintro D xs W hDl hSx ⟨⟨hch, X, vG, vg, vs, ls, hG⟩, hF⟩ hK
    obtain ⟨gs, hgs⟩ : ∃ gs, gs = (gsOf (lastB S first) (xs.map Prod.fst)).1 := ⟨_, rfl⟩
    rw [← hgs] at hG
    obtain ⟨aG, cpG, rfl⟩ := own_sl hG.2.2.1
    have HGs := Lib.hid hgs
    clear hgs
    have cG := hG.1.cell
    have d1 := hF.2.1.cell
    have d2 := hF.2.2.1.cell
    have f1 := hF.2.1.frozen
    have f2 := hF.2.2.1.frozen
    have HG := Lib.hid hG
    have HF := Lib.hid hF
    have HK := Lib.hid hK
    have HC := Lib.hid hch
    clear hG hF hK hch hsq GP0 hnw
    gi_wp2
    have hnw := HN0.out
    have hn1 : n0 + 1 ≠ D := fun e => by have := HF.out.2.1; have k := HK.out; rw [← e, this] at k; cases k
    have hn2 : n0 + 1 + 1 ≠ D := fun e => by have := HF.out.2.2.1; have k := HK.out; rw [← e, this] at k; cases k
    have hDk : ((W.setCell ⟨n0 + 1, 0, none⟩ (.slice aG gs.length cpG)).setCell ⟨n0 + 1 + 1, 0, none⟩ (.int .i64 0)).heap[D]? = some (.deferred (some [])) := ((Below.heap_setCell _ _ _ _ (by show D ≠ n0 + 1 + 1; omega)).trans (Below.heap_setCell _ _ _ _ (by show D ≠ n0 + 1; omega))).trans HK.out
    have hR := read_fin (k := count) (count := count) (epoch := epoch) HG.out hnw (by omega) (.deferred none) HK.out hm (Nat.le_refl _) (fun i hi => by
      have : i ∈ xs.map Prod.fst := by rw [hSx]; exact List.mem_range.2 hi
      obtain ⟨x, hx, rfl⟩ := List.mem_map.1 this
      exact HC.out x hx) (fun h => absurd h (Nat.lt_irrefl _)) (by rw [HGs.out, hSx]; rfl) ⟨_, HF.out.2.1⟩ ⟨_, HF.out.2.2.1⟩ (by omega)
    refine ⟨by simp, .inl ⟨_, _, rfl, run_takeDeferred hDk, ?_⟩⟩
    have r1 : Boxed (((W.setCell ⟨n0 + 1, 0, none⟩ (.slice aG gs.length cpG)).setCell ⟨n0 + 1 + 1, 0, none⟩ (.int .i64 0)).putObj D (.deferred none)) (n0 + 1) 32 (.slice aG gs.length cpG) :=
      ((Boxed.set _ HF.out.2.1).other (by omega) _).kept (grownBy_putObj' _ D _) (fun e => hn1 (by cases e; rfl))
    have r2 : Boxed (((W.setCell ⟨n0 + 1, 0, none⟩ (.slice aG gs.length cpG)).setCell ⟨n0 + 1 + 1, 0, none⟩ (.int .i64 0)).putObj D (.deferred none)) (n0 + 1 + 1) 29 (.int .i64 0) :=
      (Boxed.set _ (Boxed.other HF.out.2.2.1 (by omega) _)).kept (grownBy_putObj' _ D _) (fun e => hn2 (by cases e; rfl))
    have k1 := r1.cell
    have k2 := r2.cell
    refine ⟨_, ?_, hR⟩
    simp [results, Try.f13, go_sem, k1, k2]
  case stop =>
    rintro D cd pre W hDl ⟨hSx, hSl⟩ ⟨rfl, xs, x, rfl, hno, ⟨hch, X, vG, vg, vs, ls, hG⟩, hF⟩ hK
    rw [List.map_append, List.length_append, show [x].length = 1 from rfl, List.range_succ] at hSx
    have hSa := List.append_inj hSx (by simp)
    have hSb : x.1 = xs.length := by have := hSa.2; simpa using this
    have hSy := Lib.hid hSa.1
    have hSc : xs.length + 1 ≤ count := by simpa using hSl
    rw [hSb] at hno
    have HNo := Lib.hid hno
    clear hSx hSa hSb hSl hno
    obtain ⟨gs, hgs⟩ : ∃ gs, gs = (gsOf (lastB S first) (xs.map Prod.fst)).1 := ⟨_, rfl⟩
    rw [← hgs] at hG
    obtain ⟨aG, cpG, rfl⟩ := own_sl hG.2.2.1
    have HGs := Lib.hid hgs
    clear hgs
    have cG := hG.1.cell
    have d1 := hF.2.1.cell
    have d2 := hF.2.2.1.cell
    have f1 := hF.2.1.frozen
    have f2 := hF.2.2.1.frozen
    have HG := Lib.hid hG
    have HF := Lib.hid hF
    have HK := Lib.hid hK
    have HC := Lib.hid hch
    clear hG hF hK hch hsq GP0 hnw
    gi_wp2
    have hnw := HN0.out
    have hn1 : n0 + 1 ≠ D := fun e => by have := HF.out.2.1; have k := HK.out; rw [← e, this] at k; cases k
    have hn2 : n0 + 1 + 1 ≠ D := fun e => by have := HF.out.2.2.1; have k := HK.out; rw [← e, this] at k; cases k
    have hDk : ((W.setCell ⟨n0 + 1, 0, none⟩ (.slice aG gs.length cpG)).setCell ⟨n0 + 1 + 1, 0, none⟩ (.int .i64 0)).heap[D]? = some (.deferred (some [])) := ((Below.heap_setCell _ _ _ _ (by show D ≠ n0 + 1 + 1; omega)).trans (Below.heap_setCell _ _ _ _ (by show D ≠ n0 + 1; omega))).trans HK.out
    have hR := read_fin (k := xs.length) (count := count) (epoch := epoch) HG.out hnw (by omega) (.deferred none) HK.out hm (by omega) (fun i hi => by
      have : i ∈ xs.map Prod.fst := by rw [hSy.out]; exact List.mem_range.2 hi
      obtain ⟨x, hx, rfl⟩ := List.mem_map.1 this
      exact HC.out x hx) (fun _ => HNo.out) (by rw [HGs.out, hSy.out]; rfl) ⟨_, HF.out.2.1⟩ ⟨_, HF.out.2.2.1⟩ (by omega)
    refine ⟨by simp, .inl ⟨_, _, rfl, run_takeDeferred hDk, ?_⟩⟩
    have r1 : Boxed (((W.setCell ⟨n0 + 1, 0, none⟩ (.slice aG gs.length cpG)).setCell ⟨n0 + 1 + 1, 0, none⟩ (.int .i64 0)).putObj D (.deferred none)) (n0 + 1) 32 (.slice aG gs.length cpG) :=
      ((Boxed.set _ HF.out.2.1).other (by omega) _).kept (grownBy_putObj' _ D _) (fun e => hn1 (by cases e; rfl))
    have r2 : Boxed (((W.setCell ⟨n0 + 1, 0, none⟩ (.slice aG gs.length cpG)).setCell ⟨n0 + 1 + 1, 0, none⟩ (.int .i64 0)).putObj D (.deferred none)) (n0 + 1 + 1) 29 (.int .i64 0) :=
      (Boxed.set _ (Boxed.other HF.out.2.2.1 (by omega) _)).kept (grownBy_putObj' _ D _) (fun e => hn2 (by cases e; rfl))
    have k1 := r1.cell
    have k2 := r2.cell
    refine ⟨_, ?_, hR⟩
    simp [results, Try.f13, go_sem, k1, k2]
end Go.Proofs.Ytmeijienfdefjaa
