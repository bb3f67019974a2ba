/- num.cut: the words. -/
import Derived.Test.YtoeddhkbifeamaaDoorNTook
namespace Go.Proofs.YtoeddhkbifeamaaDoor
open Go.RowKit
set_option linter.unusedVariables false

theorem no_cells (i : Nat) (s : ByteArray) : s.extract i (i + 0) = ⟨#[]⟩ := by
  apply ByteArray.ext
  simp
section
variable {ba bs i j : Nat} {s : ByteArray} {w : World}
theorem figures_none (h : At w ba bs i s) (hi : i ≤ s.size) (hs : s.size ≤ 9223372036854775807) (h0 : runAt s i = 0) :
    Calls Tryd.prog 37 #[.pointer (some ⟨ba, 0, none⟩), .pointer (some ⟨bs, 0, none⟩)] w fun e w' =>
      e = .returned (.string ⟨#[]⟩) ∧ At w' ba bs i s ∧ w.grownBy w' (some ba) := by
  refine (figures_any ba bs i s w h hi hs).mono ?_
  rw [h0, no_cells]
  exact fun e w' h => h
theorem figures_some (X : ByteArray) (h : At w ba bs i s) (hi : i ≤ s.size) (hs : s.size ≤ 9223372036854775807) (hj : j = i + runAt s i) (hX : X = s.extract i j) :
    Calls Tryd.prog 37 #[.pointer (some ⟨ba, 0, none⟩), .pointer (some ⟨bs, 0, none⟩)] w fun e w' =>
      e = .returned (.string X) ∧ At w' ba bs j s ∧ w.grownBy w' (some ba) := by
  subst hX hj
  exact figures_any ba bs i s w h hi hs
theorem took_yes (S : ByteArray) (h : At w ba bs i s) (hs : s.size ≤ 9223372036854775807) (ht : signAt s i S.data.toList = true) :
    Calls Tryd.prog 35 #[.string S, .pointer (some ⟨ba, 0, none⟩), .pointer (some ⟨bs, 0, none⟩)] w fun e w' =>
      e = .returned (.bool true) ∧ At w' ba bs (i + 1) s ∧ w.grownBy w' (some ba) := by
  refine (took_any S ba bs i s w h (Nat.le_of_lt (signAt_lt ht)) hs).mono ?_
  rw [show tookI s i S.data.toList = i + 1 from if_pos ht, ht]
  exact fun e w' h => h
theorem took_no (S : ByteArray) (h : At w ba bs i s) (hi : i ≤ s.size) (hs : s.size ≤ 9223372036854775807) (ht : signAt s i S.data.toList = false) :
    Calls Tryd.prog 35 #[.string S, .pointer (some ⟨ba, 0, none⟩), .pointer (some ⟨bs, 0, none⟩)] w fun e w' =>
      e = .returned (.bool false) ∧ At w' ba bs i s ∧ w.grownBy w' (some ba) := by
  refine (took_any S ba bs i s w h hi hs).mono ?_
  rw [show tookI s i S.data.toList = i from if_neg (by rw [ht]; simp), ht]
  exact fun e w' h => h
end

/-- A number's text in its pieces. -/
structure Pc where
  below : Bool
  whole : ByteArray
  rest : ByteArray
  down : Bool
  exponent : ByteArray
  length : Nat
def Pc.val (p : Pc) : Value := .agg #[.bool p.below, .string p.whole, .string p.rest, .bool p.down, .string p.exponent, .int .i64 p.length]
def noPc : Pc := ⟨false, ⟨#[]⟩, ⟨#[]⟩, false, ⟨#[]⟩, 0⟩
/-- Where its exponent's figures begin. -/
def expI (s : ByteArray) (i : Nat) : Nat := if signAt s (i + 1) [45] = true then i + 2 else tookI s (i + 1) [43]
def cutTail (s : ByteArray) (b : Bool) (wh re : ByteArray) (i : Nat) : Pc :=
  if signAt s i [101, 69] = true then
    (if runAt s (expI s i) = 0 then ⟨b, wh, re, signAt s (i + 1) [45], ⟨#[]⟩, i⟩
     else ⟨b, wh, re, signAt s (i + 1) [45], s.extract (expI s i) (expI s i + runAt s (expI s i)), expI s i + runAt s (expI s i)⟩)
  else ⟨b, wh, re, false, ⟨#[]⟩, i⟩
def cutDot (s : ByteArray) (b : Bool) (wh : ByteArray) (i : Nat) : Pc :=
  if signAt s i [46] = true then
    (if runAt s (i + 1) = 0 then ⟨b, wh, ⟨#[]⟩, false, ⟨#[]⟩, i⟩
     else cutTail s b wh (s.extract (i + 1) (i + 1 + runAt s (i + 1))) (i + 1 + runAt s (i + 1)))
  else cutTail s b wh ⟨#[]⟩ i
def cutP (s : ByteArray) : Pc :=
  if signAt s (tookI s 0 [45]) [48] = true then cutDot s (signAt s 0 [45]) ⟨#[48]⟩ (tookI s 0 [45] + 1)
  else if runAt s (tookI s 0 [45]) = 0 then noPc
  else cutDot s (signAt s 0 [45]) (s.extract (tookI s 0 [45]) (tookI s 0 [45] + runAt s (tookI s 0 [45]))) (tookI s 0 [45] + runAt s (tookI s 0 [45]))

/-- The six cells of some pieces. -/
def sixP (b : Bool) (wh re : ByteArray) (dn : Bool) (ex : ByteArray) (n : Nat) : Array Value := #[.bool b, .string wh, .string re, .bool dn, .string ex, .int .i64 n]
theorem heap_store (w : World) (g i : Nat) (v : Value) (cs : Array Value) (t : TypeId) (h : w.heap[g]? = some (.cells cs t (0, 0))) : (w.setCell ⟨g, i, none⟩ v).heap[g]? = some (.cells (cs.setIfInBounds i v) t (0, 0)) := by
  simp [World.setCell, Array.getElem?_modify, h]
def six (w : World) (b : Nat) (v0 v1 v2 v3 v4 v5 : Value) : World := (((((w.setCell ⟨b, 0, none⟩ v0).setCell ⟨b, 1, none⟩ v1).setCell ⟨b, 2, none⟩ v2).setCell ⟨b, 3, none⟩ v3).setCell ⟨b, 4, none⟩ v4).setCell ⟨b, 5, none⟩ v5
theorem six_stores (w : World) (b : Nat) (t : TypeId) (c0 c1 c2 c3 c4 c5 v0 v1 v2 v3 v4 v5 : Value) (h : w.heap[b]? = some (.cells #[c0, c1, c2, c3, c4, c5] t (0, 0))) :
    (six w b v0 v1 v2 v3 v4 v5).heap[b]? = some (.cells #[v0, v1, v2, v3, v4, v5] t (0, 0)) := by
  unfold six
  have h1 : (w.setCell ⟨b, 0, none⟩ v0).heap[b]? = some (.cells #[v0, c1, c2, c3, c4, c5] t (0, 0)) := heap_store w b 0 v0 _ t h
  have h2 : ((w.setCell ⟨b, 0, none⟩ v0).setCell ⟨b, 1, none⟩ v1).heap[b]? = some (.cells #[v0, v1, c2, c3, c4, c5] t (0, 0)) := heap_store _ b 1 v1 _ t h1
  have h3 : (((w.setCell ⟨b, 0, none⟩ v0).setCell ⟨b, 1, none⟩ v1).setCell ⟨b, 2, none⟩ v2).heap[b]? = some (.cells #[v0, v1, v2, c3, c4, c5] t (0, 0)) := heap_store _ b 2 v2 _ t h2
  have h4 : ((((w.setCell ⟨b, 0, none⟩ v0).setCell ⟨b, 1, none⟩ v1).setCell ⟨b, 2, none⟩ v2).setCell ⟨b, 3, none⟩ v3).heap[b]? = some (.cells #[v0, v1, v2, v3, c4, c5] t (0, 0)) := heap_store _ b 3 v3 _ t h3
  have h5 : (((((w.setCell ⟨b, 0, none⟩ v0).setCell ⟨b, 1, none⟩ v1).setCell ⟨b, 2, none⟩ v2).setCell ⟨b, 3, none⟩ v3).setCell ⟨b, 4, none⟩ v4).heap[b]? = some (.cells #[v0, v1, v2, v3, v4, c5] t (0, 0)) := heap_store _ b 4 v4 _ t h4
  exact heap_store _ b 5 v5 _ t h5
theorem below_six {w0 w : World} {B b : Nat} (h : Below B w0 w) (hb : B ≤ b) (v0 v1 v2 v3 v4 v5 : Value) : Below B w0 (six w b v0 v1 v2 v3 v4 v5) :=
  (((((h.setCell (p := ⟨b, 0, none⟩) hb v0).setCell (p := ⟨b, 1, none⟩) hb v1).setCell (p := ⟨b, 2, none⟩) hb v2).setCell (p := ⟨b, 3, none⟩) hb v3).setCell (p := ⟨b, 4, none⟩) hb v4).setCell (p := ⟨b, 5, none⟩) hb v5

/-- Where cut's variables lie: the text, what is handed back, the place, and (in block g) the pieces. -/
structure CS (w0 : World) (g i : Nat) (s : ByteArray) (P : Array Value) (w : World) : Prop where
  at_ : At w (w0.heap.size + 2) w0.heap.size i s
  r : w.heap[w0.heap.size + 1]? = some (.cells (sixP false ⟨#[]⟩ ⟨#[]⟩ false ⟨#[]⟩ 0) 39 (0, 0))
  p : w.heap[g]? = some (.cells P 39 (0, 0))
  g_ : w0.heap.size + 2 < g
  below : Below w0.heap.size w0 w
section
variable {w0 w w' : World} {g i j k : Nat} {s : ByteArray} {P : Array Value}
theorem CS.turned (h : CS w0 g i s P w) (ha : At w' (w0.heap.size + 2) w0.heap.size j s) (hg : w.grownBy w' (some (w0.heap.size + 2))) : CS w0 g j s P w' :=
  ⟨ha, (hg.block _ (lt_of_block h.r) (by simp)).trans h.r, (hg.block _ (lt_of_block h.p) (by have := h.g_; simp; omega)).trans h.p, h.g_,
    h.below.grown hg (by have := lt_of_block h.at_.2; omega) (by rintro j ⟨⟩; omega)⟩
theorem CS.set (h : CS w0 g i s P w) (k : Nat) (v : Value) : CS w0 g i s (P.setIfInBounds k v) (w.setCell ⟨g, k, none⟩ v) :=
  have hg := h.g_
  ⟨⟨(Below.heap_setCell w ⟨g, k, none⟩ v _ (by show _ ≠ g; omega)).trans h.at_.1, (Below.heap_setCell w ⟨g, k, none⟩ v _ (by show _ ≠ g; omega)).trans h.at_.2⟩,
    (Below.heap_setCell w ⟨g, k, none⟩ v _ (by show _ ≠ g; omega)).trans h.r, heap_store w g k v P _ h.p, hg, h.below.setCell (p := ⟨g, k, none⟩) (by show _ ≤ g; omega) v⟩
theorem CS.free (h : CS w0 g i s P w) (k : Nat) : w.frozen? ⟨g, k, none⟩ = false := by simp [World.frozen?, h.p]
theorem CS.cell (h : CS w0 g i s P w) (k : Nat) (v : Value) (hv : P[k]? = some v) : w.cell? ⟨g, k, none⟩ = some v := by simp [World.cell?, h.p, hv]
theorem CS.here (h : CS w0 g i s P w) : w.cell? ⟨w0.heap.size + 2, 0, none⟩ = some (.int .i64 i) := cell_of_one h.at_.1
theorem CS.rfree (h : CS w0 g i s P w) (k : Nat) : w.frozen? ⟨w0.heap.size + 1, k, none⟩ = false := by simp [World.frozen?, h.r]
theorem CS.rcell (h : CS w0 g i s P w) (k : Nat) (v : Value) (hv : (sixP false ⟨#[]⟩ ⟨#[]⟩ false ⟨#[]⟩ 0)[k]? = some v) : w.cell? ⟨w0.heap.size + 1, k, none⟩ = some v := by simp [World.cell?, h.r, hv]
end
end Go.Proofs.YtoeddhkbifeamaaDoor
