/- block: rows of bytes that the call gathers, as lists. -/
import Derived.Test.YthpfaaindkkpcaaBMem
import Derived.Test.YthpfaaindkkpcaaMStr
import Derived.Test.YthpfaaindkkpcaaBNum
import Derived.Test.YthpfaaindkkpcaaShelf
namespace Go.Proofs.Ythpfaaindkkpcaa
open Go.RowKit Go.Maps
set_option linter.unusedVariables false
set_option linter.unusedSimpArgs false

abbrev u8L (xs : List Nat) : List Value := xs.map fun (n : Nat) => Value.int .u8 (n : Int)
abbrev OwnU (w : World) (base : Nat) (v : Value) (xs : List Nat) : Prop := w.ownsRow base 5 1 v xs.length (u8L xs)
/-- Where a row that grew lies: where it lay, or in a new block. -/
def NewOr (w : World) (v v' : Value) : Prop := v'.ownBlock = v.ownBlock ∨ ∃ k, v'.ownBlock = some k ∧ w.heap.size ≤ k
theorem newOr_trans {w w1 : World} {v v1 v2 : Value} (h1 : NewOr w v v1) (h2 : NewOr w1 v1 v2) (hs : w.heap.size ≤ w1.heap.size) : NewOr w v v2 := by
  rcases h2 with h2 | ⟨k, h2, hk⟩
  · rcases h1 with h1 | ⟨k, h1, hk⟩
    · exact .inl (h2.trans h1)
    · exact .inr ⟨k, h2.trans h1, hk⟩
  · exact .inr ⟨k, h2, by omega⟩
theorem grown_trans {w w1 w2 : World} {v v1 : Value} (h1 : w.grownBy w1 v.ownBlock) (hn : NewOr w v v1) (h2 : w1.grownBy w2 v1.ownBlock) : w.grownBy w2 v.ownBlock where
  os := h2.os.trans h1.os
  tape := h2.tape.trans h1.tape
  output := h2.output.trans h1.output
  size := Nat.le_trans h1.size h2.size
  block k hk hne := by
    have e1 := h1.block k hk hne
    refine (h2.block k (Nat.lt_of_lt_of_le hk h1.size) ?_).trans e1
    rcases hn with hn | ⟨j, hn, hj⟩
    · rw [hn]; exact hne
    · rw [hn]; intro e; injection e with e; omega
theorem grown_alloc {w w1 : World} {o : Obj} {r : Option Nat} (h : (w.alloc o).grownBy w1 r) : w.grownBy w1 r where
  os := h.os
  tape := h.tape
  output := h.output
  size := Nat.le_trans (by simp) h.size
  block k hk hne := (h.block k (by simp; omega) hne).trans (Below.heap_alloc _ _ _ hk)
theorem own_u_snoc {w : World} {base : Nat} {v : Value} {xs : List Nat} {f : Nat} (h : w.ownsRow base 5 1 v (xs.length + 1) (u8L xs ++ [.int .u8 (f : Int)])) : OwnU w base v (xs ++ [f]) := by
  have e1 : (xs ++ [f]).length = xs.length + 1 := by simp
  have e2 : u8L (xs ++ [f]) = u8L xs ++ [.int .u8 (f : Int)] := by simp [u8L]
  show w.ownsRow base 5 1 v (xs ++ [f]).length (u8L (xs ++ [f]))
  rw [e1, e2]; exact h
/-- One byte is put behind a row of the call's own. -/
theorem wpList_pushU {P : Program} (w : World) {ops : Array Oper} {rest : List Oper} {o : Oper} {a : Act} {Q : Exit → Act → World → Prop} (hgd : o.guard = none) (s x : Operand) (t : TypeId)
    (ho : o.op = .call { callee := .builtin .append, args := #[s, x], argTypes := #[t, t] }) (ht : P.underlying t = some (.slice 5))
    (hinfo : (P.info? 5).map (fun i => (i.zero, i.size, i.bytes)) = some (some (.int .u8 0), 1, 1))
    (base : Nat) (v : Value) (xs : List Nat) (hs : a.eval s = v) (hown : OwnU w base v xs)
    (f : Nat) (hx : a.eval x = .slice (some ⟨w.heap.size, 0, none⟩) 1 1) (hsmall : xs.length + 1 ≤ 140737488355328) (hbase : base ≤ w.heap.size)
    (h : ∀ v' w', OwnU w' base v' (xs ++ [f]) → w.grownBy w' v.ownBlock → NewOr w v v' → wpList P ops Q rest (a.put o.dst v') w') :
    wpList P ops Q (o :: rest) a (w.alloc (.cells #[.int .u8 (f : Int)] 5)) := by
  obtain ⟨i0, hi, hz0, hz1, hz2⟩ := info_parts hinfo
  refine wpList_append_own_at _ hgd s x t ho base 5 i0 (.int .u8 0) 1 1 ht hi hz0 hz1 hz2 rfl (by decide) v xs.length (u8L xs) hs (hown.alloc _) ⟨w.heap.size, 0, none⟩ 1 1 [.int .u8 (f : Int)] hx rfl (cell_one_new _ _ _) (fun u hu => by simp at hu; subst hu; rfl) (by unfold maxLen; omega) (by omega) (by simp; omega) ?_
  intro v' w' h1 h2 _ h4
  refine h v' w' (own_u_snoc h1) (grown_alloc h2) ?_
  rcases h4 with h4 | h4
  · exact .inl h4
  · exact .inr ⟨_, h4, by simp⟩
theorem own_bytes {w : World} {base : Nat} {A : Option Addr} {n c : Nat} {xs : List Nat} (h : OwnU w base (.slice A n c) xs) (hw : ∀ x ∈ xs, x < 256) : n = xs.length ∧ Bytes w A xs.length (fun i => xs.getD i 0) := by
  have h' := h
  obtain ⟨hl, ⟨hv, h0⟩ | ⟨g, cap, cur, hv, hg, hh, r⟩⟩ := h
  · injection hv with hv1 hv2 hv3
    rw [h0]
    exact ⟨hv2, by omega, fun i hi => absurd hi (by omega), fun hn => absurd hn (by omega)⟩
  · injection hv with hv1 hv2 hv3
    subst hv1 hv2 hv3
    refine ⟨rfl, by have := r.1; have := r.2.1; unfold maxLen at *; omega, fun i hi => ?_, fun hn => ⟨g, 0, rfl, fun i hi => ?_⟩⟩
    · have : xs.getD i 0 = xs[i] := by rw [List.getD_eq_getElem?_getD, List.getElem?_eq_getElem hi]; rfl
      show xs.getD i 0 < 256
      rw [this]; exact hw _ (List.getElem_mem hi)
    · have hc := World.ownsRow.cellAt (w := w) (base := base) (e := 5) (size := 1) h' i (by simpa using hi)
      rw [Nat.zero_add]
      have h2 : w.cell? ⟨g, i, none⟩ = (u8L xs)[i]? := by simpa using hc
      rw [h2]
      simp [List.getElem?_map, List.getElem?_eq_getElem hi, List.getD_eq_getElem?_getD]
end Go.Proofs.Ythpfaaindkkpcaa
