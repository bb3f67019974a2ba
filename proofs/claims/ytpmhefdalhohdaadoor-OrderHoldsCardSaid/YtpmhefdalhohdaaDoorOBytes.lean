/- Bytes that a call gathers by append, as a list. -/
import Derived.Test.YtpmhefdalhohdaaDoorMStr
namespace Go.Proofs.YtpmhefdalhohdaaDoor
open Go.RowKit
set_option linter.unusedVariables false

def lF (l : List UInt8) (i : Nat) : Nat := (l.getD i 0).toNat
theorem lF_lt (l : List UInt8) (i : Nat) : lF l i < 256 := UInt8.toNat_lt _
/-- The slice v is the call's own, its bytes are l. -/
def OwnL (w : World) (base : Nat) (v : Value) (l : List UInt8) : Prop := ∃ A c, v = .slice A l.length c ∧ OwnB w base A l.length c (lF l)
theorem OwnL.nil (w : World) (base : Nat) : OwnL w base (.slice none 0 0) [] := ⟨none, 0, rfl, OwnB.none_ w base _⟩
theorem OwnL.below {w w' : World} {base : Nat} {v : Value} {l : List UInt8} (h : OwnL w base v l) (hb : Below w.heap.size w w') : OwnL w' base v l := by
  obtain ⟨A, c, e, h1⟩ := h
  exact ⟨A, c, e, h1.below hb⟩
theorem OwnL.lower {w : World} {b base : Nat} {v : Value} {l : List UInt8} (h : OwnL w b v l) (hb : base ≤ b) : OwnL w base v l := by
  obtain ⟨A, c, e, ⟨h1, h2⟩, h3⟩ := h
  refine ⟨A, c, e, ⟨h1, ?_⟩, h3⟩
  rcases h2 with h2 | ⟨g, cap, cur, a1, a2, a3⟩
  · exact .inl h2
  · exact .inr ⟨g, cap, cur, a1, Nat.le_trans hb a2, a3⟩
theorem lF_app (l r : List UInt8) (i : Nat) (h : i < l.length + r.length) : catF (lF l) l.length (lF r) i = lF (l ++ r) i := by
  unfold catF lF
  rw [List.getD_eq_getElem?_getD, List.getD_eq_getElem?_getD, List.getD_eq_getElem?_getD]
  by_cases hi : i < l.length
  · rw [if_pos hi, List.getElem?_append_left hi]
  · rw [if_neg hi, List.getElem?_append_right (by omega)]
/-- What appends to a row of the call's own leave: nothing else has turned. -/
structure Apd (base : Nat) (w : World) (v : Value) (w' : World) (v' : Value) : Prop where
  below : Below base w w'
  grown : w.grownBy w' v.ownBlock
  blk : v'.ownBlock = v.ownBlock ∨ ∃ g, v'.ownBlock = some g ∧ w.heap.size ≤ g
theorem Apd.refl (base : Nat) (w : World) (v : Value) : Apd base w v w v := ⟨Below.refl _ _, World.grownBy.refl w _, .inl rfl⟩
theorem Apd.size {base : Nat} {w w' : World} {v v' : Value} (h : Apd base w v w' v') : w.heap.size ≤ w'.heap.size := h.grown.size
theorem Apd.trans {base : Nat} {a b c : World} {u v x : Value} (h : Apd base a u b v) (k : Apd base b v c x) : Apd base a u c x := by
  refine ⟨h.below.trans k.below, ⟨k.grown.os.trans h.grown.os, k.grown.tape.trans h.grown.tape, k.grown.output.trans h.grown.output, Nat.le_trans h.size k.size, fun i hi hne => ?_⟩, ?_⟩
  · refine (k.grown.block i (Nat.lt_of_lt_of_le hi h.size) ?_).trans (h.grown.block i hi hne)
    rcases h.blk with e | ⟨g, e, hg⟩
    · rw [e]; exact hne
    · rw [e]; intro q; injection q with q; omega
  · rcases k.blk with e | ⟨g, e, hg⟩
    · rw [e]; exact h.blk
    · exact .inr ⟨g, e, Nat.le_trans h.size hg⟩
theorem Apd.alloc {base : Nat} {a b : World} {u v : Value} (h : Apd base a u b v) (hb : base ≤ b.heap.size) (o : Obj) : Apd base a u (b.alloc o) v :=
  ⟨h.below.alloc hb o, h.grown.trans (World.grownBy_alloc b o _), h.blk⟩
theorem Apd.of_below {base : Nat} {a b : World} {v : Value} (h : Below a.heap.size a b) (hb : base ≤ a.heap.size) : Apd base a v b v := ⟨h.mono hb, ⟨h.os, h.tape, h.output, h.size, fun k hk _ => h.block k hk⟩, .inl rfl⟩
theorem Apd.cell {base : Nat} {w w' : World} {v v' : Value} (h : Apd base w v w' v') {p : Addr} (hp : p.block < base) : w'.cell? p = w.cell? p := h.below.cell hp
/-- Any bytes that can be read are appended. -/
theorem wpList_app {P : Program} (w : World) {ops : Array Oper} {rest : List Oper} {o : Oper} {a : Act} {Q : Exit → Act → World → Prop} (hgd : o.guard = none) (s x : Operand) (t : TypeId)
    (ho : o.op = .call { callee := .builtin .append, args := #[s, x], argTypes := #[t, t] }) (ht : P.underlying t = some (.slice 5))
    (hinfo : (P.info? 5).map (fun i => (i.zero, i.size, i.bytes)) = some (some (.int .u8 0), 1, 1))
    (base : Nat) (v : Value) (l r : List UInt8) (hs : a.eval s = v) (hown : OwnL w base v l)
    (B : Option Addr) (d : Nat) (hx : a.eval x = .slice B r.length d) (hsrc : Bytes w B r.length (lF r)) (hnil : B = none → d = 0) (hsmall : l.length + r.length ≤ 140737488355328) (hbase : base ≤ w.heap.size)
    (h : ∀ v' w', OwnL w' base v' (l ++ r) → Apd base w v w' v' → wpList P ops Q rest (a.put o.dst v') w') : wpList P ops Q (o :: rest) a w := by
  obtain ⟨A, c, rfl, ow⟩ := hown
  refine wpList_append_bytes w hgd s x t ho ht hinfo base A l.length c (lF l) hs ow B r.length d (lF r) hx hsrc hnil hsmall hbase ?_
  intro A' c' w' h1 h2 h3
  have e : (l ++ r).length = l.length + r.length := List.length_append
  refine h _ w' ⟨A', c', by rw [e], ?_⟩ ⟨(Below.refl base w).grown h2 hbase fun k hk => (ow.base_le hk).1, by cases A <;> exact h2, ?_⟩
  rotate_left
  · rcases h3 with h3 | h3
    · exact .inl (by cases A <;> cases A' <;> exact h3)
    · exact .inr ⟨_, by cases A' <;> exact h3, Nat.le_refl _⟩
  rw [e]
  exact h1.congr fun i hi => lF_app l r i hi
theorem bytes_new (w : World) (cs : Array Value) (r : List UInt8) (hc : ∀ i, i < r.length → cs[i]? = some (.int .u8 (lF r i))) (hr : r.length ≤ 1000) :
    Bytes (w.alloc (.cells cs 5)) (some ⟨w.heap.size, 0, none⟩) r.length (lF r) := by
  refine ⟨by omega, fun i _ => lF_lt r i, fun _ => ⟨_, _, rfl, fun i hi => ?_⟩⟩
  rw [Nat.zero_add]
  have := heap_alloc_new w (.cells cs 5)
  exact (cell_of_row _ w.heap.size i _ _ _ this).trans (hc i hi)
theorem OwnL.bytes {w : World} {base : Nat} {v : Value} {l : List UInt8} (h : OwnL w base v l) : ∃ A c, v = .slice A l.length c ∧ Bytes w A l.length (lF l) ∧ (A = none → c = 0) := by
  obtain ⟨A, c, e, ow⟩ := h
  exact ⟨A, c, e, ow.bytes, ow.2.2.2.2⟩
/-- What lies below a base is as it was, and what is owned stays. -/
theorem own_new (w : World) (cs : Array Value) (r : List UInt8) (hs : cs.size = r.length) (hc : ∀ i, i < r.length → cs[i]? = some (.int .u8 (lF r i))) (hr : r.length ≤ 1000) :
    OwnL (w.alloc (.cells cs 5)) w.heap.size (.slice (some ⟨w.heap.size, 0, none⟩) r.length r.length) r := by
  refine ⟨_, _, rfl, ⟨by simp [cellsOfF], .inr ⟨w.heap.size, r.length, cs, rfl, Nat.le_refl _, heap_alloc_new w _, Nat.le_refl _, by unfold maxLen; omega, by omega, ?_⟩⟩, fun i _ => lF_lt r i, Nat.le_refl _, by omega, fun e => by cases e⟩
  apply List.ext_getElem?
  intro i
  unfold cellsOfF
  rw [Nat.mul_one, List.getElem?_take, List.getElem?_map]
  by_cases hi : i < r.length
  · rw [if_pos hi, List.getElem?_range hi, Array.getElem?_toList, hc i hi]; rfl
  · rw [if_neg hi, List.getElem?_eq_none (by simpa using hi)]; rfl
end Go.Proofs.YtpmhefdalhohdaaDoor
