/- What a disk is in memory: its struct, its two lists of sectors, its loose writes; read as plain data. -/
import Derived.Test.YtmeijienfdefjaaDNil
namespace Go.Proofs.Ytmeijienfdefjaa
open Go.RowKit

/-- Which blocks the bytes of a disk's sectors may lie in. -/
class Spare where
  ok : Nat → Prop
def Bs [Spare] (base g : Nat) : Prop := base ≤ g ∧ Spare.ok g
/-- A sector's value: nil stands for bytes that are all 0; else a block of bytes of the call's own. -/
def SecV [Spare] (w : World) (base size : Nat) (v : Value) (F : Nat → Nat) : Prop :=
  (∀ i, i < size → F i < 256) ∧ ((v = .slice none 0 0 ∧ ∀ i, i < size → F i = 0) ∨
    ∃ g c cs, v = .slice (some ⟨g, 0, none⟩) size c ∧ size ≤ c ∧ c ≤ 9223372036854775807 ∧ Bs base g ∧ w.heap[g]? = some (.cells cs 5 (0, 0)) ∧ ∀ i, i < size → cs[i]? = some (.int .u8 (F i)))
/-- No block of bytes has turned. -/
def KeepB [Spare] (base : Nat) (w w' : World) : Prop := ∀ g cs, Bs base g → w.heap[g]? = some (.cells cs 5 (0, 0)) → w'.heap[g]? = some (.cells cs 5 (0, 0))
theorem KeepB.refl [Spare] (base : Nat) (w : World) : KeepB base w w := fun _ _ _ h => h
theorem KeepB.trans [Spare] {base : Nat} {a b c : World} (h : KeepB base a b) (k : KeepB base b c) : KeepB base a c := fun g cs hb hg => k g cs hb (h g cs hb hg)
theorem SecV.keep [Spare] {w w' : World} {base size : Nat} {v : Value} {F : Nat → Nat} (h : SecV w base size v F) (k : KeepB base w w') : SecV w' base size v F := by
  refine ⟨h.1, ?_⟩
  rcases h.2 with h2 | ⟨g, c, cs, h1, h2, h3, h4, h5, h6⟩
  · exact .inl h2
  · exact .inr ⟨g, c, cs, h1, h2, h3, h4, k g cs h4 h5, h6⟩

/-- A loose write's bytes: never nil. -/
def SecN [Spare] (w : World) (base size : Nat) (v : Value) (F : Nat → Nat) : Prop := SecV w base size v F ∧ v ≠ .slice none 0 0
theorem SecN.keep [Spare] {w w' : World} {base size : Nat} {v : Value} {F : Nat → Nat} (h : SecN w base size v F) (k : KeepB base w w') : SecN w' base size v F := ⟨h.1.keep k, h.2⟩

/-- A disk as plain data: a sector is a function on numbers. -/
structure DS where
  N : Nat
  size : Nat
  fast : Nat → Nat → Nat
  now : Nat → Nat → Nat
  loose : List (Nat × (Nat → Nat))
  armed : Nat
  down : Bool
/-- Where it lies: the struct's block, the two lists' blocks, the second one's room, the slice of loose writes. -/
structure DM where
  p : Nat
  bf : Nat
  bn : Nat
  cn : Nat
  vl : Value
def looseCells : List (Nat × (Nat → Nat)) → List Value → List Value
  | x :: r, v :: vs => .int .i64 (x.1 : Int) :: v :: looseCells r vs
  | _, _ => []
def diskCells (M : DM) (S : DS) : Array Value := #[.int .i64 (S.size : Int), .slice (some ⟨M.bf, 0, none⟩) S.N S.N, .slice (some ⟨M.bn, 0, none⟩) S.N M.cn, M.vl, .int .i64 (S.armed : Int), .bool S.down]
structure Dsk [Spare] (w : World) (base : Nat) (M : DM) (S : DS) : Prop where
  hp : w.heap[M.p]? = some (.cells (diskCells M S) 78 (0, 0))
  bp : base ≤ M.p
  vf : ∃ V : Nat → Value, w.rowIs M.bf 42 S.N V ∧ ∀ i, i < S.N → SecV w base S.size (V i) (S.fast i)
  vn : ∃ V : Nat → Value, w.rowIs M.bn 42 M.cn V ∧ ∀ i, i < S.N → SecV w base S.size (V i) (S.now i)
  bfn : M.bf ≠ M.bn
  bbf : base ≤ M.bf
  bbn : base ≤ M.bn
  lo : ∃ vs : List Value, vs.length = S.loose.length ∧ w.ownsRow base 111 2 M.vl S.loose.length (looseCells S.loose vs) ∧ ∀ (j : Nat) (v : Value) (x : Nat × (Nat → Nat)), vs[j]? = some v → S.loose[j]? = some x → x.1 < S.N ∧ SecN w base S.size v x.2
  hN : 1 ≤ S.N ∧ S.N ≤ 1048576
  hS : 64 ≤ S.size ∧ S.size ≤ 4096
  hA : S.armed ≤ 9223372036854775807
  hL : S.loose.length ≤ 1000000
  hC : S.N ≤ M.cn ∧ M.cn ≤ 9223372036854775807
  hE : ∀ g, w.heap.size ≤ g → Spare.ok g

theorem size_set (w : World) (a : Addr) (v : Value) : (w.setCell a v).heap.size = w.heap.size := by simp [World.setCell]
theorem type_ne {w : World} {a b : Nat} {cs ds : Array Value} {t u : TypeId} (h : w.heap[a]? = some (.cells cs t (0, 0))) (k : w.heap[b]? = some (.cells ds u (0, 0))) (hne : t ≠ u) : a ≠ b := by
  rintro rfl
  rw [h] at k
  injection k with k
  injection k with _ k
  exact hne k

section
variable {w w' : World} {base : Nat} {M : DM} {S : DS}
theorem Dsk.cell [Spare] (h : Dsk w base M S) (i : Nat) : w.cell? ⟨M.p, i, none⟩ = (diskCells M S)[i]? := cell_of_row w M.p i _ _ _ h.hp
theorem Dsk.frozen [Spare] (h : Dsk w base M S) (i : Nat) : w.frozen? ⟨M.p, i, none⟩ = false := by simp [World.frozen?, h.hp]
theorem Dsk.c0 [Spare] (h : Dsk w base M S) : w.cell? ⟨M.p, 0, none⟩ = some (.int .i64 (S.size : Int)) := h.cell 0
theorem Dsk.c1 [Spare] (h : Dsk w base M S) : w.cell? ⟨M.p, 1, none⟩ = some (.slice (some ⟨M.bf, 0, none⟩) S.N S.N) := h.cell 1
theorem Dsk.c2 [Spare] (h : Dsk w base M S) : w.cell? ⟨M.p, 2, none⟩ = some (.slice (some ⟨M.bn, 0, none⟩) S.N M.cn) := h.cell 2
theorem Dsk.c3 [Spare] (h : Dsk w base M S) : w.cell? ⟨M.p, 3, none⟩ = some M.vl := h.cell 3
theorem Dsk.c4 [Spare] (h : Dsk w base M S) : w.cell? ⟨M.p, 4, none⟩ = some (.int .i64 (S.armed : Int)) := h.cell 4
theorem Dsk.c5 [Spare] (h : Dsk w base M S) : w.cell? ⟨M.p, 5, none⟩ = some (.bool S.down) := h.cell 5

/-- What does not turn the disk's own four blocks, nor bytes, leaves the disk as it is. -/
theorem Dsk.keep [Spare] (h : Dsk w base M S) (hp : w'.heap[M.p]? = w.heap[M.p]?) (hf : w'.heap[M.bf]? = w.heap[M.bf]?) (hn : w'.heap[M.bn]? = w.heap[M.bn]?) (hv : ∀ k, M.vl.ownBlock = some k → w'.heap[k]? = w.heap[k]?) (hb : KeepB base w w') (hz : w.heap.size ≤ w'.heap.size) : Dsk w' base M S := by
  obtain ⟨V, v1, v2⟩ := h.vf
  obtain ⟨U, u1, u2⟩ := h.vn
  obtain ⟨vs, l1, l2, l3⟩ := h.lo
  refine ⟨hp.trans h.hp, h.bp, ⟨V, v1.of_block hf, fun i hi => (v2 i hi).keep hb⟩, ⟨U, u1.of_block hn, fun i hi => (u2 i hi).keep hb⟩, h.bfn, h.bbf, h.bbn, ⟨vs, l1, ?_, fun j v x hj hx => ⟨(l3 j v x hj hx).1, (l3 j v x hj hx).2.keep hb⟩⟩, h.hN, h.hS, h.hA, h.hL, h.hC, fun g hg => h.hE g (Nat.le_trans hz hg)⟩
  refine ⟨l2.1, ?_⟩
  rcases l2.2 with h2 | ⟨g, cap, cur, e1, e2, e3, e4⟩
  · exact .inl h2
  · exact .inr ⟨g, cap, cur, e1, e2, (hv g (by rw [e1]; rfl)).trans e3, e4⟩
theorem Dsk.below [Spare] (h : Dsk w base M S) (hb : Below w.heap.size w w') : Dsk w' base M S := by
  have lt : ∀ {k : Nat} {o : Obj}, w.heap[k]? = some o → k < w.heap.size := fun e => (Array.getElem?_eq_some_iff.1 e).1
  obtain ⟨V, v1, _⟩ := h.vf
  obtain ⟨U, u1, _⟩ := h.vn
  obtain ⟨vs, _, l2, _⟩ := h.lo
  exact h.keep (hb.block _ (lt h.hp)) (hb.block _ v1.lt) (hb.block _ u1.lt) (fun k hk => hb.block _ (l2.lt k hk).2) (fun g cs _ hg => (hb.block g (lt hg)).trans hg) hb.size

/-- A store into the struct: armed, down. -/
theorem heap_store (w : World) (g i : Nat) (v : Value) (cs : Array Value) (t : TypeId) (h : w.heap[g]? = some (.cells cs t (0, 0))) : (w.setCell ⟨g, i, none⟩ v).heap[g]? = some (.cells (cs.setIfInBounds i v) t (0, 0)) := by
  simp [World.setCell, Array.getElem?_modify, h]
theorem keepB_store [Spare] {w : World} {base g i : Nat} {v : Value} {cs : Array Value} {t : TypeId} (h : w.heap[g]? = some (.cells cs t (0, 0))) (ht : t ≠ 5) : KeepB base w (w.setCell ⟨g, i, none⟩ v) := fun k ds _ hk => by
  have hne : k ≠ g := type_ne hk h (fun e => ht e.symm)
  rw [Below.heap_setCell w ⟨g, i, none⟩ v k hne]
  exact hk
theorem Dsk.store [Spare] (h : Dsk w base M S) (i : Nat) (v : Value) (S' : DS) (hc : (diskCells M S).setIfInBounds i v = diskCells M S') (e1 : S'.N = S.N) (e2 : S'.size = S.size) (e3 : S'.fast = S.fast) (e4 : S'.now = S.now) (e5 : S'.loose = S.loose) (hA : S'.armed ≤ 9223372036854775807) :
    Dsk (w.setCell ⟨M.p, i, none⟩ v) base M S' := by
  obtain ⟨V, v1, v2⟩ := h.vf
  obtain ⟨U, u1, u2⟩ := h.vn
  obtain ⟨vs, l1, l2, l3⟩ := h.lo
  have hb : KeepB base w (w.setCell ⟨M.p, i, none⟩ v) := keepB_store h.hp (by decide)
  have nf : M.bf ≠ M.p := by obtain ⟨c, hc, _⟩ := v1; exact type_ne hc h.hp (by decide)
  have nn : M.bn ≠ M.p := by obtain ⟨c, hc, _⟩ := u1; exact type_ne hc h.hp (by decide)
  refine ⟨?_, h.bp, ⟨V, ?_, fun j hj => ?_⟩, ⟨U, ?_, fun j hj => ?_⟩, h.bfn, h.bbf, h.bbn, ⟨vs, ?_, ?_, fun j u x hj hx => ?_⟩, by rw [e1]; exact h.hN, by rw [e2]; exact h.hS, hA, by rw [e5]; exact h.hL, by rw [e1]; exact h.hC, fun g hg => h.hE g (by rw [← size_set w ⟨M.p, i, none⟩ v]; exact hg)⟩
  · rw [← hc]; exact heap_store w _ _ _ _ _ h.hp
  · rw [e1]; exact v1.setOther nf v
  · rw [e2, e3]; exact (v2 j (by rw [← e1]; exact hj)).keep hb
  · exact u1.setOther nn v
  · rw [e2, e4]; exact (u2 j (by rw [← e1]; exact hj)).keep hb
  · rw [e5]; exact l1
  · rw [e5]
    refine ⟨l2.1, ?_⟩
    rcases l2.2 with h2 | ⟨g, cap, cur, a1, a2, a3, a4⟩
    · exact .inl h2
    · have ng : g ≠ M.p := type_ne a3 h.hp (by decide)
      exact .inr ⟨g, cap, cur, a1, a2, (Below.heap_setCell w ⟨M.p, i, none⟩ v g ng).trans a3, a4⟩
  · rw [e5] at hx
    rw [e1, e2]
    exact ⟨(l3 j u x hj hx).1, (l3 j u x hj hx).2.keep hb⟩
end

/-- Only the disk's own blocks have turned, and what is new. -/
structure Turns (base : Nat) (M : DM) (w w' : World) : Prop where
  os : w'.os = w.os
  tape : w'.tape = w.tape
  output : w'.output = w.output
  size : w.heap.size ≤ w'.heap.size
  block : ∀ k, k < w.heap.size → k ≠ M.p → k ≠ M.bf → k ≠ M.bn → M.vl.ownBlock ≠ some k → w'.heap[k]? = w.heap[k]?
theorem Turns.refl (base : Nat) (M : DM) (w : World) : Turns base M w w := ⟨rfl, rfl, rfl, Nat.le_refl _, fun _ _ _ _ _ _ => rfl⟩
theorem Turns.trans {base : Nat} {M : DM} {a b c : World} (h : Turns base M a b) (k : Turns base M b c) : Turns base M a c :=
  ⟨k.os.trans h.os, k.tape.trans h.tape, k.output.trans h.output, Nat.le_trans h.size k.size, fun i hi e1 e2 e3 e4 => (k.block i (Nat.lt_of_lt_of_le hi h.size) e1 e2 e3 e4).trans (h.block i hi e1 e2 e3 e4)⟩
theorem Turns.of_below {base : Nat} {M : DM} {w w' : World} (h : Below w.heap.size w w') : Turns base M w w' := ⟨h.os, h.tape, h.output, h.size, fun k hk _ _ _ _ => h.block k hk⟩
theorem Turns.store {base : Nat} {M : DM} (w : World) (i : Nat) (v : Value) : Turns base M w (w.setCell ⟨M.p, i, none⟩ v) :=
  ⟨rfl, rfl, rfl, by simp [World.setCell], fun k _ hk _ _ _ => Below.heap_setCell w ⟨M.p, i, none⟩ v k hk⟩
end Go.Proofs.Ytmeijienfdefjaa
