/- the document's Words: what it needs: a sign and what is read of it; a word in a block of its own; a word appended. -/
import Derived.Test.YtoghdllppecblaaDoorQRefG
import Derived.Test.YtoghdllppecblaaDoorQRefF
import Derived.Test.YtoghdllppecblaaDoorQRun
import Derived.Maps.AppendAt
import Derived.Laws.OwnMore
namespace Go.Proofs.YtoghdllppecblaaDoor
open Go.RowKit
set_option linter.unusedVariables false
set_option linter.unusedSimpArgs false

open Lib (decodeN decodeL)
theorem ff_drop (s : List UInt8) (k j : Nat) : ((s.drop k).getD j 0).toNat = ff s k j := by simp [ff, List.getD]
theorem sgB_sign {s : List UInt8} {k : Nat} (hk : k < s.length) : ∃ (c : Int) (n : Nat), sgB (s.length - k) (ff s k) = (c, n) ∧ c ≤ 1114111 ∧ foldL c = foldL (rn (s.drop k)) ∧ n = wd (s.drop k) := by
  have hd : decodeL (s.drop k) = decodeN (s.length - k) (ff s k 0) (ff s k 1) (ff s k 2) (ff s k 3) := by
    rw [Lib.decodeL_N, ff_drop, ff_drop, ff_drop, ff_drop, List.length_drop]
  unfold rn wd
  rw [hd]
  unfold sgB
  have hl := ff_lt s k 0
  by_cases hb : decodeN (s.length - k) (ff s k 0) (ff s k 1) (ff s k 2) (ff s k 3) = (65533, 1)
  · rw [if_pos hb, hb]
    refine ⟨-1, 1, rfl, by omega, ?_, rfl⟩
    rw [fold_neg (by omega)]
    exact fold_65533.symm
  · rw [if_neg hb]
    refine ⟨_, _, rfl, ?_, rfl, rfl⟩
    rcases Lib.decodeN_shape (s.length - k) (ff s k 0) (ff s k 1) (ff s k 2) (ff s k 3) with ⟨c, e⟩ | ⟨d1, d2, d3, cv, e⟩ | ⟨d1, d2, d3, d4, cv, cs, e⟩ | ⟨d1, d2, d3, d4, d5, cv, cw, e⟩ | e
    · rw [e]; dsimp only; omega
    · rw [e]; dsimp only; omega
    · rw [e]; dsimp only; omega
    · rw [e]; dsimp only; omega
    · exact absurd e hb
/-- A word in a block of its own. -/
structure Blk3 (W : World) (B : Nat) (a b c : Value) : Prop where
  hp : W.heap[B]? = some (.cells #[a, b, c] 40 (0, 0))
theorem Blk3.c0 {W : World} {B : Nat} {a b c : Value} (h : Blk3 W B a b c) : W.cell? ⟨B, 0, none⟩ = some a := by simp [World.cell?, h.hp]
theorem Blk3.c1 {W : World} {B : Nat} {a b c : Value} (h : Blk3 W B a b c) : W.cell? ⟨B, 1, none⟩ = some b := by simp [World.cell?, h.hp]
theorem Blk3.c2 {W : World} {B : Nat} {a b c : Value} (h : Blk3 W B a b c) : W.cell? ⟨B, 2, none⟩ = some c := by simp [World.cell?, h.hp]
theorem Blk3.fz {W : World} {B : Nat} {a b c : Value} (h : Blk3 W B a b c) (j : Nat) : W.frozen? ⟨B, j, none⟩ = false := by simp [World.frozen?, h.hp]
theorem Blk3.lt {W : World} {B : Nat} {a b c : Value} (h : Blk3 W B a b c) : B < W.heap.size := (Array.getElem?_eq_some_iff.1 h.hp).1
theorem Blk3.below {W W' : World} {B : Nat} {a b c : Value} (h : Blk3 W B a b c) (hb : Below W.heap.size W W') : Blk3 W' B a b c := ⟨(hb.block B h.lt).trans h.hp⟩
theorem Blk3.set0 {W : World} {B : Nat} {a b c : Value} (h : Blk3 W B a b c) (v : Value) : Blk3 (W.setCell ⟨B, 0, none⟩ v) B v b c := ⟨by simp [World.setCell, Array.getElem?_modify, h.hp]⟩
theorem Blk3.set1 {W : World} {B : Nat} {a b c : Value} (h : Blk3 W B a b c) (v : Value) : Blk3 (W.setCell ⟨B, 1, none⟩ v) B a v c := ⟨by simp [World.setCell, Array.getElem?_modify, h.hp]⟩
theorem Blk3.set2 {W : World} {B : Nat} {a b c : Value} (h : Blk3 W B a b c) (v : Value) : Blk3 (W.setCell ⟨B, 2, none⟩ v) B a b v := ⟨by simp [World.setCell, Array.getElem?_modify, h.hp]⟩
theorem Blk3.made (W : World) (a b c : Value) : Blk3 (W.alloc (.cells #[a, b, c] 40)) W.heap.size a b c := ⟨by unfold World.alloc; simp only []; first | exact Array.getElem?_push_size .. | simp⟩
abbrev OwnR (W : World) (base : Nat) (v : Value) (ws : List Wd) : Prop := W.ownsRow base 40 3 v ws.length (rowW ws)
theorem infoR : (Tryd.prog.info? 40).map (fun i => (i.zero, i.size, i.bytes)) = some (some (.agg #[.string ⟨#[]⟩, .int .i64 0, .int .i64 0]), 3, 32) := by kernel_rfl
theorem own_base {W : World} {base : Nat} {v : Value} {ws : List Wd} (h : OwnR W base v ws) {k : Nat} (hk : v.ownBlock = some k) : base ≤ k ∧ k < W.heap.size := by
  rcases h.2 with ⟨hv, _⟩ | ⟨g, cap, cur, hv, hg, hh, _⟩
  · subst hv; cases hk
  · subst hv
    injection hk with hk
    subst hk
    exact ⟨hg, (Array.getElem?_eq_some_iff.1 hh).1⟩
theorem OwnR.below {W W' : World} {base : Nat} {v : Value} {ws : List Wd} (h : OwnR W base v ws) (hb : Below W.heap.size W W') : OwnR W' base v ws := by
  refine World.ownsRow.kept h (grown_below (r := none) hb) ?_
  cases hv : v.ownBlock with
  | none => exact .inl rfl
  | some k => exact .inr (by intro e; cases e)
theorem OwnR.set {W : World} {base : Nat} {v : Value} {ws : List Wd} (h : OwnR W base v ws) (B o : Nat) (u : Value) (hne : ∀ k, v.ownBlock = some k → k < B) : OwnR (W.setCell ⟨B, o, none⟩ u) base v ws := by
  refine World.ownsRow.kept h (grown_store W ⟨B, o, none⟩ u) ?_
  cases hv : v.ownBlock with
  | none => exact .inl rfl
  | some k => exact .inr (by intro e; injection e with e; have := hne k hv; simp at e; omega)
theorem wpList_push_word (w : World) {ops : Array Oper} {rest : List Oper} {o : Oper} {a : Act} {Q : Exit → Act → World → Prop} (hgd : o.guard = none) (s x : Operand)
    (ho : o.op = .call { callee := .builtin .append, args := #[s, x], argTypes := #[30, 30] })
    (base : Nat) (v : Value) (ws : List Wd) (u : Wd) (hs : a.eval s = v) (hown : OwnR w base v ws)
    (B1 : Nat) (hB1 : B1 = w.heap.size) (hx : a.eval x = .slice (some ⟨B1, 0, none⟩) 1 1) (hsmall : (ws.length + 1) * 32 ≤ 140737488355328) (hbase : base ≤ w.heap.size)
    (h : ∀ v' w', OwnR w' base v' (ws ++ [u]) → Below base w w' → wpList Tryd.prog ops Q rest (a.put o.dst v') w') :
    wpList Tryd.prog ops Q (o :: rest) a (w.alloc (.cells #[.string (mkB u.text), .int .i64 (u.a : Nat), .int .i64 (u.b : Nat)] 40)) := by
  rw [hB1] at hx
  obtain ⟨i0, hi0, hz0, hz1, hz2⟩ := Option.map_eq_some_iff.1 infoR |>.elim fun i hi => (⟨i, hi.1, by have := hi.2; simp at this; exact this.1, by have := hi.2; simp at this; exact this.2.1, by have := hi.2; simp at this; exact this.2.2⟩ : ∃ i, Tryd.prog.info? 40 = some i ∧ i.zero = some (.agg #[.string ⟨#[]⟩, .int .i64 0, .int .i64 0]) ∧ i.size = 3 ∧ i.bytes = 32)
  have o2 : OwnR (w.alloc (.cells #[.string (mkB u.text), .int .i64 (u.a : Nat), .int .i64 (u.b : Nat)] 40)) base v ws := World.ownsRow.alloc hown _
  refine wpList_append_own_at _ hgd s x 30 ho base 40 i0 (.agg #[.string ⟨#[]⟩, .int .i64 0, .int .i64 0]) 3 32 Tryd.underlying30 hi0 hz0 hz1 hz2 rfl (by decide) _ _ _ hs o2 ⟨w.heap.size, 0, none⟩ 1 1 [.string (mkB u.text), .int .i64 (u.a : Nat), .int .i64 (u.b : Nat)] hx rfl ?_ (by simp [Value.oneCell']) (by unfold maxLen; omega) (by omega) (by simp; omega) ?_
  · intro j v hv
    rw [Addr.add_mid, Nat.zero_add]
    rcases j with _ | _ | _ | j
    · simp at hv ⊢; exact hv
    · simp at hv ⊢; exact hv
    · simp at hv ⊢; exact hv
    · simp at hv
  · intro v' w' ho1 hg1 _ hb1
    refine h v' w' ?_ ?_
    · show World.ownsRow w' base _ 3 v' (ws ++ [u]).length (rowW (ws ++ [u]))
      rw [rowW_snoc, List.length_append]
      exact ho1
    · exact ((Below.refl base w).alloc hbase _).grown hg1 (by simp; omega) fun k hk => (own_base o2 hk).1
theorem len_le {s : List UInt8} {p : Nat} (hp : p < s.length) : s.drop p ≠ [] := by intro e; have := congrArg List.length e; simp at this; omega
theorem hd_text (p : Nat) (l : List UInt8) : (hd p l).text = foldL (rn l) := rfl
theorem go_skip {s : List UInt8} {p : Nat} (hp : p < s.length) (hf : foldL (rn (s.drop p)) = []) : go none (sg p (s.drop p)) = go none (sg (p + wd (s.drop p)) (s.drop (p + wd (s.drop p)))) := by
  rw [sg_cons (len_le hp), go, hd_text, if_pos hf, List.drop_drop]
theorem go_stop {s : List UInt8} {p : Nat} (hp : p < s.length) (hf : foldL (rn (s.drop p)) = []) (w : Wd) (f : Bool) : go (some (w, f)) (sg p (s.drop p)) = w :: go none (sg p (s.drop p)) := by
  rw [sg_cons (len_le hp), go, go, hd_text, if_pos hf, if_pos hf]
theorem go_end {s : List UInt8} {p : Nat} (hp : s.length ≤ p) (w : Wd) (f : Bool) : go (some (w, f)) (sg p (s.drop p)) = w :: go none (sg p (s.drop p)) := by
  rw [List.drop_eq_nil_of_le hp]
  rfl
theorem go_done {s : List UInt8} {p : Nat} (hp : s.length ≤ p) : go none (sg p (s.drop p)) = [] := by
  rw [List.drop_eq_nil_of_le hp]
  rfl
def cutN (T : List UInt8) (F : List UInt8) (f : Bool) : Bool := f || decide (32 < T.length + F.length)
theorem go_more {s : List UInt8} {q : Nat} (hq : q < s.length) (hf : foldL (rn (s.drop q)) ≠ []) (T : List UInt8) (p : Nat) (f : Bool) :
    go (some (⟨T, p, q⟩, f)) (sg q (s.drop q)) = go (some (⟨if cutN T (foldL (rn (s.drop q))) f = true then T else T ++ foldL (rn (s.drop q)), p, q + wd (s.drop q)⟩, cutN T (foldL (rn (s.drop q))) f)) (sg (q + wd (s.drop q)) (s.drop (q + wd (s.drop q)))) := by
  rw [sg_cons (len_le hq), go, hd_text, if_neg hf, List.drop_drop]
  have : (hd q (s.drop q)).b = q + wd (s.drop q) := by show q + rlN (rn (s.drop q)) = _; rw [rl_wd hf]
  unfold grownW cutB
  rw [this]
  rfl
theorem go_begin {s : List UInt8} {p : Nat} (hp : p < s.length) (hf : foldL (rn (s.drop p)) ≠ []) : go none (sg p (s.drop p)) = go (some (⟨[], p, p⟩, false)) (sg p (s.drop p)) := by
  rw [go_more hp hf, sg_cons (len_le hp), go, hd_text, if_neg hf, List.drop_drop]
  have h4 := fold_len (rn (s.drop p))
  have hc : cutN [] (foldL (rn (s.drop p))) false = false := by unfold cutN; simp; omega
  rw [hc, if_neg (by simp)]
  have : (hd p (s.drop p)).b = p + wd (s.drop p) := by show p + rlN (rn (s.drop p)) = _; rw [rl_wd hf]
  rw [this]
  rfl
end Go.Proofs.YtoghdllppecblaaDoor
