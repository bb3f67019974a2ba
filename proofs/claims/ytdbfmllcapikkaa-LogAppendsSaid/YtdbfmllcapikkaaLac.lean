/- Merged texts: DNew, DKeep, DWrite, DSettle, DChoose, DFlush, DCrash, DAfter, DAwake, DActs, DDid, LLoad, LWrite, LAppend, LSlots, MSeqMem. -/
import Derived.Test.YtdbfmllcapikkaaLab
import Derived.Deep.RegionLaw
import Derived.Deep.RegionHeld3
import Derived.RangeFuncBox
import Derived.IntWalk
import Derived.Deep.RegionHeldLaw
import Derived.Deep.DeepCutAuto
import Derived.Deep.CutRange
import Derived.RangeFuncKeeps
/- The contract of New. -/
namespace Go.Proofs.Ytdbfmllcapikkaa
open Go.RowKit

def newS (N size : Nat) : DS := { N := N, size := size, fast := fun _ _ => 0, now := fun _ _ => 0, loose := [], armed := 0, down := false }
theorem sliceinfo : (Try.prog.info? 42).map (fun i => (i.zero, i.size, i.bytes)) = some (some (.slice none 0 0), 1, 24) := by kernel_rfl

/-- A new disk, its two lists laid in either order. -/
theorem new_disk [Spare] (w' : World) (N size p bf bn : Nat) (hN : 1 ≤ N ∧ N ≤ 1048576) (hS : 64 ≤ size ∧ size ≤ 4096) (base : Nat) (hp : base ≤ p) (hf : base ≤ bf) (hn : base ≤ bn) (hne : bf ≠ bn) (hE : ∀ g, w'.heap.size ≤ g → Spare.ok g)
    (h1 : w'.heap[p]? = some (.cells #[.int .i64 (size : Int), .slice (some ⟨bf, 0, none⟩) N N, .slice (some ⟨bn, 0, none⟩) N N, .slice none 0 0, .int .i64 0, .bool false] 78 (0, 0)))
    (h2 : w'.rowIs bf 42 N (fun _ => .slice none 0 0)) (h3 : w'.rowIs bn 42 N (fun _ => .slice none 0 0)) : Dsk w' base { p := p, bf := bf, bn := bn, cn := N, vl := .slice none 0 0 } (newS N size) where
  hp := h1
  bp := hp
  vf := ⟨_, h2, fun _ _ => ⟨fun _ _ => by show (0 : Nat) < 256; omega, .inl ⟨rfl, fun _ _ => rfl⟩⟩⟩
  vn := ⟨_, h3, fun _ _ => ⟨fun _ _ => by show (0 : Nat) < 256; omega, .inl ⟨rfl, fun _ _ => rfl⟩⟩⟩
  bfn := hne
  bbf := hf
  bbn := hn
  lo := ⟨[], rfl, World.ownsRow_nil _ _ _ _, fun _ _ _ hj => by simp at hj⟩
  hN := hN
  hS := hS
  hA := by show (0 : Nat) ≤ 9223372036854775807; omega
  hL := by show (0 : Nat) ≤ 1000000; omega
  hC := ⟨Nat.le_refl _, by show N ≤ _; omega⟩
  hE := hE

theorem three_new (w : World) (N : Nat) (c : Array Value) (W3 : World) (hW : W3 = (((w.alloc (.cells (madeCells #[.slice none 0 0] N) 42)).alloc (.cells (madeCells #[.slice none 0 0] N) 42)).alloc (.cells c 78)).drew) :
    W3.heap[w.heap.size + 1 + 1]? = some (.cells c 78 (0, 0)) ∧ W3.rowIs w.heap.size 42 N (fun _ => .slice none 0 0) ∧ W3.rowIs (w.heap.size + 1) 42 N (fun _ => .slice none 0 0) ∧ Below w.heap.size w W3 := by
  subst hW
  have r1 := World.rowIs_made w (.slice none 0 0) N 42
  have r2 := World.rowIs_made (w.alloc (.cells (madeCells #[.slice none 0 0] N) 42)) (.slice none 0 0) N 42
  rw [World.size_alloc] at r2
  refine ⟨?_, (((r1.alloc _).alloc _).drew), ((r2.alloc _).drew), ((((Below.refl _ _).alloc (Nat.le_refl _) _).alloc (by simp) _).alloc (by simp; omega) _).drew⟩
  have := heap_alloc_new ((w.alloc (.cells (madeCells #[.slice none 0 0] N) 42)).alloc (.cells (madeCells #[.slice none 0 0] N) 42)) (.cells c 78)
  rw [World.size_alloc, World.size_alloc] at this
  exact this
def NewPost [Spare] (N size : Nat) (w : World) (e : Ending) (w' : World) : Prop := ∃ M, e = .returned (.pointer (some ⟨M.p, 0, none⟩)) ∧ Dsk w' w.heap.size M (newS N size) ∧ Below w.heap.size w w'

set_option maxHeartbeats 1000000 in
theorem new_ok [Spare] (N size : Nat) (w : World) (hN : 1 ≤ N ∧ N ≤ 1048576) (hS : 64 ≤ size ∧ size ≤ 4096) (hE : ∀ g, w.heap.size ≤ g → Spare.ok g) :
    Calls Try.prog 10 #[.int .i64 N, .int .i64 size] w (NewPost N size w) := by
  have hmk := run_make_row' (P := Try.prog) 56 42 (.slice none 0 0) 24 Try.underlying56 sliceinfo rfl .i64 .i64 N (by omega) (by omega)
  obtain ⟨hN1, hN2⟩ := hN
  obtain ⟨hS1, hS2⟩ := hS
  go_enter Try.func10, Try.ntmps10
  go_wp2
  go_region
  · obtain ⟨W3, hW⟩ : ∃ W3, W3 = (((w.alloc (.cells (madeCells #[.slice none 0 0] N) 42)).alloc (.cells (madeCells #[.slice none 0 0] N) 42)).alloc
      (.cells #[.int .i64 (size : Int), .slice (some ⟨w.heap.size, 0, none⟩) N N, .slice (some ⟨w.heap.size + 1, 0, none⟩) N N, .slice none 0 0, .int .i64 0, .bool false] 78)).drew := ⟨_, rfl⟩
    obtain ⟨h1, h2, h3, h4⟩ := three_new w N _ W3 hW
    rw [← hW]
    have D := Lib.hid (new_disk W3 N size (w.heap.size + 1 + 1) w.heap.size (w.heap.size + 1) ⟨hN1, hN2⟩ ⟨hS1, hS2⟩ w.heap.size (by omega) (by omega) (by omega) (by omega) (fun g hg => hE g (Nat.le_trans h4.size hg)) h1 h2 h3)
    have B := Lib.hid h4
    clear hW h1 h2 h3 h4 hmk
    go_wp2
    go_ret
    exact ⟨_, rfl, D.out, B.out⟩
  · obtain ⟨W3, hW⟩ : ∃ W3, W3 = (((w.alloc (.cells (madeCells #[.slice none 0 0] N) 42)).alloc (.cells (madeCells #[.slice none 0 0] N) 42)).alloc
      (.cells #[.int .i64 (size : Int), .slice (some ⟨w.heap.size + 1, 0, none⟩) N N, .slice (some ⟨w.heap.size, 0, none⟩) N N, .slice none 0 0, .int .i64 0, .bool false] 78)).drew := ⟨_, rfl⟩
    obtain ⟨h1, h2, h3, h4⟩ := three_new w N _ W3 hW
    rw [← hW]
    have D := Lib.hid (new_disk W3 N size (w.heap.size + 1 + 1) (w.heap.size + 1) w.heap.size ⟨hN1, hN2⟩ ⟨hS1, hS2⟩ w.heap.size (by omega) (by omega) (by omega) (by omega) (fun g hg => hE g (Nat.le_trans h4.size hg)) h1 h3 h2)
    have B := Lib.hid h4
    clear hW h1 h2 h3 h4 hmk
    go_wp2
    go_ret
    exact ⟨_, rfl, D.out, B.out⟩
end Go.Proofs.Ytdbfmllcapikkaa
/- The contract of keep: a loose write of a copy of b. -/
namespace Go.Proofs.Ytdbfmllcapikkaa
open Go.RowKit

theorem OwnB.secV [Spare] {w : World} {base n c : Nat} {A : Option Addr} {F : Nat → Nat} (h : OwnB w base A n c F) (hn : 0 < n) (hE : ∀ g, base ≤ g → Spare.ok g) : SecV w base n (.slice A n c) F := by
  refine ⟨h.2.1, .inr ?_⟩
  have hc := h.2.2
  rcases h.1.2 with ⟨_, h0⟩ | ⟨g, cap, cur, e1, e2, e3, e4, e5, e6, e7⟩
  · omega
  · injection e1 with a1 a2 a3
    subst a1 a3
    refine ⟨g, c, cur, rfl, hc.1, hc.2.1, ⟨e2, hE g e2⟩, e3, fun i hi => ?_⟩
    have := congrArg (fun l => l[i]?) e7
    simp only [Nat.mul_one] at this
    rw [List.getElem?_take_of_lt hi] at this
    rw [← Array.getElem?_toList, this]
    unfold cellsOfF
    rw [List.getElem?_map, List.getElem?_range hi]
    rfl

/-- append onto a row of the call's own, as a step of a region that draws its order. -/
theorem step_append_own {P : Program} {ops : Array Oper} {o : Oper} {a : Act} {w : World} {K : Act → World → Prop} {Q : Exit → Act → World → Prop} {E : Prop} (hgd : o.guard = none) (s x : Operand) (t : TypeId)
    (ho : o.op = .call { callee := .builtin .append, args := #[s, x], argTypes := #[t, t] })
    (base : Nat) (e : TypeId) (i : TypeInfo) (z : Value) (size bytes : Nat) (ht : P.underlying t = some (.slice e)) (hi : P.info? e = some i) (hz : i.zero = some z)
    (hsize : i.size = size) (hby : i.bytes = bytes) (hzs : z.cells.size = size) (hsz : 0 < size)
    (v : Value) (n : Nat) (xs : List Value) (hs : a.eval s = v) (hown : w.ownsRow base e size v n xs)
    (ad : Addr) (m c : Nat) (news : List Value) (hx : a.eval x = .slice (some ad) m c) (hl : news.length = m * size) (hnews : ∀ j u, news[j]? = some u → w.cell? (ad.add j) = some u) (h1 : ∀ u ∈ news, u.oneCell' = true)
    (h63 : n + m ≤ maxLen) (hbytes : (n + m) * bytes ≤ 140737488355328) (hbase : base ≤ w.heap.size)
    (h : ∀ v' w', Hid (w'.ownsRow base e size v' (n + m) (xs ++ news)) → Hid (w.grownBy w' v.ownBlock) → (v'.ownBlock = v.ownBlock ∨ v'.ownBlock = some w.heap.size) → (∃ g cap, v' = .slice (some ⟨g, 0, none⟩) (n + m) cap ∨ n + m = 0) → K (a.put o.dst v') w') :
    if Region.wanted o (yielded ops a.tmps) = true then Oper.wp P o a w K Q else E := by
  have hw : Region.wanted o (yielded ops a.tmps) = true := by simp [Region.wanted, hgd]
  rw [if_pos hw]
  obtain ⟨v', w', hr, h2, h3, _, h5⟩ := run_append_own_at (P := P) w base t o.type e i z size bytes ht hi hz hsize hby hzs hsz v n xs hown ad m c news hl hnews h1 h63 hbytes hbase
  unfold Oper.wp execOp
  simp only [ho, resolve, invoke, builtin, Sem.run_bind, Sem.run_pure, Result.andThen_ok, List.map_toArray, List.map_cons, List.map_nil, hs, hx, hr]
  refine h v' w' h2 h3 h5 ?_
  rcases h2.2 with ⟨_, h0⟩ | ⟨g, cap, cur, e1, _⟩
  · exact ⟨0, 0, .inr h0⟩
  · exact ⟨g, cap, .inl e1⟩

def upd (f : Nat → Nat → Nat) (k : Nat) (F : Nat → Nat) : Nat → Nat → Nat := fun j => if j = k then F else f j
theorem keepB_below [Spare] {w w' : World} {base : Nat} (h : Below w.heap.size w w') : KeepB base w w' := fun g _ _ hg => (h.block g (Array.getElem?_eq_some_iff.1 hg).1).trans hg
theorem SecV.lower [Spare] {w : World} {b base size : Nat} {v : Value} {F : Nat → Nat} (h : SecV w b size v F) (hb : base ≤ b) : SecV w base size v F := by
  refine ⟨h.1, ?_⟩
  rcases h.2 with h2 | ⟨g, c, cs, h1, h2, h3, h4, h5, h6⟩
  · exact .inl h2
  · exact .inr ⟨g, c, cs, h1, h2, h3, ⟨Nat.le_trans hb h4.1, h4.2⟩, h5, h6⟩

/-- A sector's value is put into one of the two lists. -/
theorem Dsk.setNow [Spare] {w : World} {base k : Nat} {M : DM} {S : DS} {y : Value} {F : Nat → Nat} (h : Dsk w base M S) (hy : SecV w base S.size y F) :
    Dsk (w.setCell ⟨M.bn, k, none⟩ y) base M { S with now := upd S.now k F } ∧ KeepB base w (w.setCell ⟨M.bn, k, none⟩ y) := by
  obtain ⟨V, v1, v2⟩ := h.vf
  obtain ⟨U, u1, u2⟩ := h.vn
  obtain ⟨vs, l1, l2, l3⟩ := h.lo
  obtain ⟨c', cv', cn', cc'⟩ := id u1
  have hb : KeepB base w (w.setCell ⟨M.bn, k, none⟩ y) := keepB_store cv' (by decide)
  refine ⟨⟨?_, h.bp, ⟨V, v1.setOther h.bfn y, fun j hj => (v2 j hj).keep hb⟩, ⟨_, u1.set k y, fun j hj => ?_⟩, h.bfn, h.bbf, h.bbn, ⟨vs, l1, ⟨l2.1, ?_⟩, fun j u x hj hx => ⟨(l3 j u x hj hx).1, (l3 j u x hj hx).2.keep hb⟩⟩, h.hN, h.hS, h.hA, h.hL, h.hC, fun g hg => h.hE g (by rw [size_set] at hg; exact hg)⟩, hb⟩
  · rw [Below.heap_setCell w ⟨M.bn, k, none⟩ y M.p (type_ne h.hp cv' (by decide))]
    exact h.hp
  · show SecV _ base S.size (if j = k then y else U j) (upd S.now k F j)
    unfold upd
    by_cases e : j = k
    · rw [if_pos e, if_pos e]; exact hy.keep hb
    · rw [if_neg e, if_neg e]; exact (u2 j hj).keep hb
  · rcases l2.2 with h2 | ⟨g, cap, cur, a1, a2, a3, a4⟩
    · exact .inl h2
    · exact .inr ⟨g, cap, cur, a1, a2, (Below.heap_setCell w ⟨M.bn, k, none⟩ y g (type_ne a3 cv' (by decide))).trans a3, a4⟩
theorem Dsk.setFast [Spare] {w : World} {base k : Nat} {M : DM} {S : DS} {y : Value} {F : Nat → Nat} (h : Dsk w base M S) (hy : SecV w base S.size y F) :
    Dsk (w.setCell ⟨M.bf, k, none⟩ y) base M { S with fast := upd S.fast k F } ∧ KeepB base w (w.setCell ⟨M.bf, k, none⟩ y) := by
  obtain ⟨V, v1, v2⟩ := h.vf
  obtain ⟨U, u1, u2⟩ := h.vn
  obtain ⟨vs, l1, l2, l3⟩ := h.lo
  obtain ⟨c', cv', cn', cc'⟩ := id v1
  have hb : KeepB base w (w.setCell ⟨M.bf, k, none⟩ y) := keepB_store cv' (by decide)
  refine ⟨⟨?_, h.bp, ⟨_, v1.set k y, fun j hj => ?_⟩, ⟨U, u1.setOther (fun e => h.bfn e.symm) y, fun j hj => (u2 j hj).keep hb⟩, h.bfn, h.bbf, h.bbn, ⟨vs, l1, ⟨l2.1, ?_⟩, fun j u x hj hx => ⟨(l3 j u x hj hx).1, (l3 j u x hj hx).2.keep hb⟩⟩, h.hN, h.hS, h.hA, h.hL, h.hC, fun g hg => h.hE g (by rw [size_set] at hg; exact hg)⟩, hb⟩
  · rw [Below.heap_setCell w ⟨M.bf, k, none⟩ y M.p (type_ne h.hp cv' (by decide))]
    exact h.hp
  · show SecV _ base S.size (if j = k then y else V j) (upd S.fast k F j)
    unfold upd
    by_cases e : j = k
    · rw [if_pos e, if_pos e]; exact hy.keep hb
    · rw [if_neg e, if_neg e]; exact (v2 j hj).keep hb
  · rcases l2.2 with h2 | ⟨g, cap, cur, a1, a2, a3, a4⟩
    · exact .inl h2
    · exact .inr ⟨g, cap, cur, a1, a2, (Below.heap_setCell w ⟨M.bf, k, none⟩ y g (type_ne a3 cv' (by decide))).trans a3, a4⟩

theorem writeinfo : (Try.prog.info? 111).map (fun i => (i.zero, i.size, i.bytes)) = some (some (.agg #[.int .i64 0, .slice none 0 0]), 2, 32) := by kernel_rfl

/-- The world at the append: the copy of the write, and the row of one that is appended. -/
structure KeepAt [Spare] (w W : World) (base : Nat) (M : DM) (S : DS) (vs : List Value) (x y : Value) (g : Nat) : Prop where
  d : Dsk W base M S
  own : W.ownsRow base 111 2 M.vl S.loose.length (looseCells S.loose vs)
  news : ∀ j u, [x, y][j]? = some u → W.cell? ((⟨g, 0, none⟩ : Addr).add j) = some u
  below : Below w.heap.size w W
theorem KeepAt.make [Spare] {w W1 : World} {base : Nat} {M : DM} {S : DS} {vs : List Value} {x y : Value} (D : Dsk W1 base M S) (ho : W1.ownsRow base 111 2 M.vl S.loose.length (looseCells S.loose vs)) (hb : Below w.heap.size w W1) (W : World)
    (hW : W = ((W1.alloc (.cells #[x, y] 111)).alloc (.cells #[x, y] 111)).drew) : KeepAt w W base M S vs x y (W1.heap.size + 1) := by
  have e : Below W1.heap.size W1 W := by rw [hW]; exact (((Below.refl _ _).alloc (Nat.le_refl _) _).alloc (by simp) _).drew
  refine ⟨D.below e, by rw [hW]; exact ((ho.alloc _).alloc _).drew, fun j u hj => ?_, hb.trans (e.mono hb.size)⟩
  have hh : W.heap[W1.heap.size + 1]? = some (.cells #[x, y] 111 (0, 0)) := by
    rw [hW]
    have := heap_alloc_new (W1.alloc (.cells #[x, y] 111)) (.cells #[x, y] 111)
    rw [World.size_alloc] at this
    exact this
  have hc := fun i => cell_of_row W (W1.heap.size + 1) i _ _ _ hh
  match j, hj with
  | 0, hj => simp at hj; subst hj; exact (hc 0)
  | 1, hj => simp at hj; subst hj; exact (hc 1)
theorem KeepAt.after [Spare] {w W w2 : World} {base : Nat} {M : DM} {S : DS} {vs : List Value} {x y : Value} {g : Nat} (h : KeepAt w W base M S vs x y g) (hg : W.grownBy w2 M.vl.ownBlock) :
    w2.cell? ⟨M.p, 3, none⟩ = some M.vl ∧ w2.frozen? ⟨M.p, 3, none⟩ = false := by
  have hne : some M.p ≠ M.vl.ownBlock := by
    intro e
    rcases h.own.2 with ⟨hv, _⟩ | ⟨g, cap, cur, hv, _, hh, _⟩
    · rw [hv] at e; cases e
    · rw [hv] at e
      simp only [Value.ownBlock, Option.some.injEq] at e
      exact type_ne h.d.hp hh (by decide) e
  have hp := hg.block M.p (Array.getElem?_eq_some_iff.1 h.d.hp).1 hne
  exact ⟨(World.cell?_of_block (w := W) (a := ⟨M.p, 3, none⟩) hp).trans h.d.c3, (World.frozen?_of_block (w := W) (a := ⟨M.p, 3, none⟩) hp).trans (h.d.frozen 3)⟩

theorem looseCells_snoc : ∀ (ls : List (Nat × (Nat → Nat))) (vs : List Value) (x : Nat × (Nat → Nat)) (y : Value), vs.length = ls.length → looseCells (ls ++ [x]) (vs ++ [y]) = looseCells ls vs ++ [.int .i64 (x.1 : Int), y]
  | [], [], _, _, _ => rfl
  | a :: ls, v :: vs, x, y, h => by
    have := looseCells_snoc ls vs x y (by simpa using h)
    simp only [List.cons_append, looseCells, this]
  | [], _ :: _, _, _, h => by simp at h
  | _ :: _, [], _, _, h => by simp at h

/-- The disk behind the append and the store of its result. -/
theorem keep_loose [Spare] {W w2 : World} {base k g2 c2 : Nat} {M : DM} {S : DS} {vs : List Value} {y : Value} {F : Nat → Nat} (D : Dsk W base M S) (hown : W.ownsRow base 111 2 M.vl S.loose.length (looseCells S.loose vs)) (hvs : vs.length = S.loose.length)
    (hlo : ∀ (j : Nat) (v : Value) (x : Nat × (Nat → Nat)), vs[j]? = some v → S.loose[j]? = some x → x.1 < S.N ∧ SecN W base S.size v x.2) (hk : k < S.N) (hy : SecN W base S.size y F) (hL : S.loose.length < 1000000)
    (hg0 : W.grownBy w2 M.vl.ownBlock) (ho : w2.ownsRow base 111 2 (.slice (some ⟨g2, 0, none⟩) (S.loose.length + 1) c2) (S.loose.length + 1) (looseCells S.loose vs ++ [.int .i64 (k : Int), y])) :
    Dsk (w2.setCell ⟨M.p, 3, none⟩ (.slice (some ⟨g2, 0, none⟩) (S.loose.length + 1) c2)) base { M with vl := .slice (some ⟨g2, 0, none⟩) (S.loose.length + 1) c2 } { S with loose := S.loose ++ [(k, F)] } ∧
    KeepB base W (w2.setCell ⟨M.p, 3, none⟩ (.slice (some ⟨g2, 0, none⟩) (S.loose.length + 1) c2)) := by
  have lt : ∀ {j : Nat} {o : Obj}, W.heap[j]? = some o → j < W.heap.size := fun e => (Array.getElem?_eq_some_iff.1 e).1
  have other : ∀ {j : Nat} {cs : Array Value} {t : TypeId}, W.heap[j]? = some (.cells cs t (0, 0)) → t ≠ 111 → w2.heap[j]? = W.heap[j]? := fun {j cs t} e ht => by
    refine hg0.block j (lt e) fun q => ?_
    rcases hown.2 with ⟨hv, _⟩ | ⟨g, cap, cur, hv, _, hh, _⟩
    · rw [hv] at q; cases q
    · rw [hv] at q
      simp only [Value.ownBlock, Option.some.injEq] at q
      exact type_ne e hh ht q
  have hp2 : w2.heap[M.p]? = some (.cells (diskCells M S) 78 (0, 0)) := (other D.hp (by decide)).trans D.hp
  have kb : KeepB base W (w2.setCell ⟨M.p, 3, none⟩ (.slice (some ⟨g2, 0, none⟩) (S.loose.length + 1) c2)) := fun g cs _ hh => by
    have e := (other hh (by decide)).trans hh
    rw [Below.heap_setCell w2 ⟨M.p, 3, none⟩ _ g (type_ne e hp2 (by decide))]
    exact e
  obtain ⟨V, ⟨c, cv, cn, cc⟩, v2⟩ := D.vf
  obtain ⟨U, ⟨c', cv', cn', cc'⟩, u2⟩ := D.vn
  have cvf := (other cv (by decide)).trans cv
  have cvn := (other cv' (by decide)).trans cv'
  have put : ∀ {j : Nat} {cs : Array Value} {t : TypeId}, w2.heap[j]? = some (.cells cs t (0, 0)) → t ≠ 78 → (w2.setCell ⟨M.p, 3, none⟩ (.slice (some ⟨g2, 0, none⟩) (S.loose.length + 1) c2)).heap[j]? = some (.cells cs t (0, 0)) := fun e ht => by
    rw [Below.heap_setCell w2 ⟨M.p, 3, none⟩ _ _ (type_ne e hp2 ht)]
    exact e
  refine ⟨⟨?_, D.bp, ⟨V, ⟨c, put cvf (by decide), cn, cc⟩, fun i hi => (v2 i hi).keep kb⟩, ⟨U, ⟨c', put cvn (by decide), cn', cc'⟩, fun i hi => (u2 i hi).keep kb⟩, D.bfn, D.bbf, D.bbn, ⟨vs ++ [y], by simp [hvs], ?_, ?_⟩, D.hN, D.hS, D.hA, by simp; omega, D.hC, fun g hg => D.hE g (by rw [size_set] at hg; exact Nat.le_trans hg0.size hg)⟩, kb⟩
  · exact heap_store w2 M.p 3 _ _ _ hp2
  · show World.ownsRow _ base 111 2 _ (S.loose ++ [(k, F)]).length (looseCells (S.loose ++ [(k, F)]) (vs ++ [y]))
    rw [looseCells_snoc _ _ _ _ hvs, List.length_append]
    refine ⟨ho.1, ?_⟩
    rcases ho.2 with ⟨h1, _⟩ | ⟨g, cap, cur, e1, e2, e3, e4⟩
    · cases h1
    · exact .inr ⟨g, cap, cur, e1, e2, put e3 (by decide), e4⟩
  · intro j v x hj hx
    show x.1 < S.N ∧ SecN _ base S.size v x.2
    rcases Nat.lt_or_ge j vs.length with h | h
    · rw [List.getElem?_append_left h] at hj
      have hx' : S.loose[j]? = some x := by
        have := hx
        simp only at this
        rw [List.getElem?_append_left (by omega)] at this
        exact this
      exact ⟨(hlo j v x hj hx').1, (hlo j v x hj hx').2.keep kb⟩
    · have hj2 : j = vs.length := by
        have := (List.getElem?_eq_some_iff.1 hj).1
        simp at this
        omega
      subst hj2
      simp at hj
      simp only [hvs] at hx
      simp at hx
      subst hj hx
      exact ⟨hk, hy.keep kb⟩

def keepS (S : DS) (k : Nat) (F : Nat → Nat) : DS := { S with loose := S.loose ++ [(k, F)], now := upd S.now k F }
def KeepPost [Spare] (k : Nat) (F : Nat → Nat) (base : Nat) (M : DM) (S : DS) (w : World) (e : Ending) (w' : World) : Prop :=
  e = .returned (.tuple #[]) ∧ ∃ v', Dsk w' base { M with vl := v' } (keepS S k F) ∧ Turns base M w w' ∧ KeepB base w w' ∧ (v'.ownBlock = M.vl.ownBlock ∨ ∃ g, v'.ownBlock = some g ∧ w.heap.size ≤ g)

set_option maxHeartbeats 1000000 in
theorem keep_any [Spare] (k b o c : Nat) (F : Nat → Nat) (w : World) (base : Nat) (M : DM) (S : DS) (h : Dsk w base M S) (hbase : base ≤ w.heap.size) (hk : k < S.N) (hL : S.loose.length < 1000000) (hb : Bytes w (some ⟨b, o, none⟩) S.size F) :
    Calls Try.prog 48 #[.pointer (some ⟨M.p, 0, none⟩), .int .i64 k, .slice (some ⟨b, o, none⟩) S.size c] w (KeepPost k F base M S w) := by
  have hS := h.hS
  go_enter Try.func48, Try.ntmps48
  go_wp2_with fail
  refine (clone_any b o S.size c F w hb (by omega)).mono ?_
  rintro e W1 ⟨B, d, rfl, o1, l1⟩
  have D1 := h.below l1
  have sv := o1.secV (by omega) h.hE
  obtain ⟨g1, hg1, _⟩ := o1.at_ (by omega)
  subst hg1
  have hc3 := D1.c3
  obtain ⟨vs, lv1, lv2, lv3⟩ := D1.lo
  obtain ⟨W2, hW2⟩ : ∃ W2, W2 = ((W1.alloc (.cells #[.int .i64 (k : Int), .slice (some ⟨g1, 0, none⟩) S.size d] 111)).alloc (.cells #[.int .i64 (k : Int), .slice (some ⟨g1, 0, none⟩) S.size d] 111)).drew := ⟨_, rfl⟩
  have KA := Lib.hid (KeepAt.make (x := .int .i64 (k : Int)) (y := .slice (some ⟨g1, 0, none⟩) S.size d) D1 lv2 l1 W2 hW2)
  have H1 : Hid (∀ u ∈ [Value.int .i64 (k : Int), .slice (some ⟨g1, 0, none⟩) S.size d], u.oneCell' = true) := Lib.hid fun u hu => by
    simp at hu
    rcases hu with rfl | rfl <;> rfl
  have HW2 := Lib.hid hW2
  have HLV := Lib.hid lv3
  have hz := l1.size
  have hz2 : base ≤ W2.heap.size := by rw [hW2]; simp; omega
  obtain ⟨i0, hi0, hz0, hz1, hz3⟩ := info_parts writeinfo
  have hcA := (D1.below ((Below.refl W1.heap.size W1).alloc (Nat.le_refl _) (.cells #[.int .i64 (k : Int), .slice (some ⟨g1, 0, none⟩) S.size d] 111))).c3
  have hcB := (D1.below (((Below.refl W1.heap.size W1).alloc (Nat.le_refl _) (.cells #[.int .i64 (k : Int), .slice (some ⟨g1, 0, none⟩) S.size d] 111)).alloc (by simp) (.cells #[.int .i64 (k : Int), .slice (some ⟨g1, 0, none⟩) S.size d] 111))).c3
  clear o1 hb lv2 lv3 hW2
  go_wp2
  go_region_law (refine step_append_own rfl (.tmp 16) (.tmp 18) 76 rfl base 111 i0 (.agg #[.int .i64 0, .slice none 0 0]) 2 32 Try.underlying76 hi0 hz0 hz1 hz3 rfl (by decide) M.vl S.loose.length (looseCells S.loose vs) rfl (by have := KA.out.own; rw [HW2.out] at this; exact this) ⟨W1.heap.size + 1, 0, none⟩ 1 1 [.int .i64 (k : Int), .slice (some ⟨g1, 0, none⟩) S.size d] rfl rfl (by have := KA.out.news; rw [HW2.out] at this; exact this) H1.out (by unfold maxLen; omega) (by omega) (by have := hz2; rw [HW2.out] at this; exact this) ?_; intro v2 w2 ho2 hg2 hb2 hs2; have hq2 := KA.out.after (by rw [HW2.out]; exact hg2.out); have hq3 := hq2.1; have hq4 := hq2.2; obtain ⟨g2, c2, hv2⟩ := hs2; obtain rfl := hv2.resolve_right (by omega))
  all_goals
    have G2 : W2.grownBy w2 M.vl.ownBlock := by rw [HW2.out]; exact hg2.out
    have e12 : Below W1.heap.size W1 W2 := by rw [HW2.out]; exact (((Below.refl _ _).alloc (Nat.le_refl _) _).alloc (by simp) _).drew
    have K3 := keep_loose KA.out.d KA.out.own lv1 (fun j v x hj hx => ⟨(HLV.out j v x hj hx).1, (HLV.out j v x hj hx).2.keep (keepB_below e12)⟩) hk ⟨(sv.lower hbase).keep (keepB_below e12), by intro q; cases q⟩ hL G2 ho2.out
    have hwb : W2.cell? ⟨W1.heap.size, 1, none⟩ = some (.slice (some ⟨g1, 0, none⟩) S.size d) := by rw [HW2.out]; simp
    obtain ⟨D3, kb3⟩ := K3
    have sv3 := ((sv.lower hbase).keep (keepB_below (base := base) e12)).keep kb3
    have hown1 : ∀ g, M.vl.ownBlock = some g → g < W1.heap.size := fun g hg => by
      obtain ⟨us, _, o2, _⟩ := D1.lo
      exact (o2.lt g hg).2
    have hzW : W2.heap.size = W1.heap.size + 1 + 1 := by rw [HW2.out]; simp
    have hp1 : M.p < W1.heap.size := (Array.getElem?_eq_some_iff.1 D1.hp).1
    have hwc : (w2.setCell ⟨M.p, 3, none⟩ (.slice (some ⟨g2, 0, none⟩) (S.loose.length + 1) c2)).cell? ⟨W1.heap.size, 1, none⟩ = some (.slice (some ⟨g1, 0, none⟩) S.size d) := by
      rw [World.cell?_setCell_other _ _ _ _ (fun e => by have := congrArg Addr.block e; simp at this; omega)]
      have hb' : w2.heap[W1.heap.size]? = W2.heap[W1.heap.size]? := G2.block W1.heap.size (by omega) (fun e => by have := hown1 _ e.symm; omega)
      exact (World.cell?_of_block (w := W2) (a := ⟨W1.heap.size, 1, none⟩) hb').trans hwb
    have t3 : Turns base M w (w2.setCell ⟨M.p, 3, none⟩ (.slice (some ⟨g2, 0, none⟩) (S.loose.length + 1) c2)) := by
      refine (Turns.of_below l1).trans ((Turns.of_below e12).trans (Turns.trans ⟨G2.os, G2.tape, G2.output, G2.size, fun j hj _ _ _ hv => G2.block j hj (fun e => hv e.symm)⟩ (Turns.store w2 3 _)))
    have kw3 : KeepB base w (w2.setCell ⟨M.p, 3, none⟩ (.slice (some ⟨g2, 0, none⟩) (S.loose.length + 1) c2)) := (keepB_below l1).trans ((keepB_below e12).trans kb3)
    have hb3 : (Value.slice (some ⟨g2, 0, none⟩) (S.loose.length + 1) c2).ownBlock = M.vl.ownBlock ∨ ∃ g, (Value.slice (some ⟨g2, 0, none⟩) (S.loose.length + 1) c2).ownBlock = some g ∧ w.heap.size ≤ g := by
      rcases hb2 with e | e
      · exact .inl e
      · refine .inr ⟨_, e, ?_⟩
        simp
        omega
    generalize w2.setCell ⟨M.p, 3, none⟩ (.slice (some ⟨g2, 0, none⟩) (S.loose.length + 1) c2) = W3 at D3 kb3 sv3 hwc t3 kw3 ⊢
    have hn2 := D3.c2
    obtain ⟨U, u1, _⟩ := D3.vn
    have hnk := u1.cell (i := k) (Nat.lt_of_lt_of_le hk D3.hC.1)
    have hcn := D3.hC.2
    have hnf := u1.frozen k
    obtain ⟨D4, kb4⟩ := D3.setNow (k := k) sv3
    have t4 : Turns base M W3 (W3.setCell ⟨M.bn, k, none⟩ (.slice (some ⟨g1, 0, none⟩) S.size d)) := ⟨rfl, rfl, rfl, by simp [World.setCell], fun j _ _ _ hj _ => Below.heap_setCell W3 ⟨M.bn, k, none⟩ _ j hj⟩
    have DD := Lib.hid D4
    have TT := Lib.hid (t3.trans t4)
    have KK := Lib.hid (kw3.trans kb4)
    have BB := Lib.hid hb3
    have hN := D3.hN
    clear D3 kb3 sv3 t3 kw3 hb3 D4 kb4 t4 G2 e12 hwb hown1 hzW hp1 u1 HLV KA H1 HW2 hz2 hz hcA hcB hq2 hq3 hq4 hb2 hg2 ho2 D1 l1 sv hi0 hz0 hz1 hz3 hc3 hv2
    go_wp2
    go_region
    all_goals
      go_end0
      exact ⟨rfl, _, DD.out.keep rfl rfl rfl (fun _ _ => rfl) (fun _ _ _ hg => hg) (Nat.le_refl _), ⟨TT.out.os, TT.out.tape, TT.out.output, TT.out.size, TT.out.block⟩, KK.out, BB.out⟩
end Go.Proofs.Ytdbfmllcapikkaa
/- The contract of Write. -/
namespace Go.Proofs.Ytdbfmllcapikkaa
open Go.RowKit

/-- What a call leaves of a disk: the state, where the loose writes lie now, what has turned. -/
def Left [Spare] (S' : DS) (base : Nat) (M : DM) (w w' : World) : Prop :=
  ∃ v', Dsk w' base { M with vl := v' } S' ∧ Turns base M w w' ∧ KeepB base w w' ∧ (v'.ownBlock = M.vl.ownBlock ∨ (∃ g, v'.ownBlock = some g ∧ w.heap.size ≤ g) ∨ v'.ownBlock = none)
theorem Left.refl [Spare] {w : World} {base : Nat} {M : DM} {S : DS} (h : Dsk w base M S) : Left S base M w w := ⟨M.vl, h, Turns.refl _ _ _, KeepB.refl _ _, .inl rfl⟩
theorem Turns.widen {base : Nat} {M : DM} {a b c : World} {v' : Value} (h : Turns base M a b) (k : Turns base { M with vl := v' } b c) (hv : v'.ownBlock = M.vl.ownBlock ∨ (∃ g, v'.ownBlock = some g ∧ a.heap.size ≤ g) ∨ v'.ownBlock = none) : Turns base M a c :=
  ⟨k.os.trans h.os, k.tape.trans h.tape, k.output.trans h.output, Nat.le_trans h.size k.size, fun i hi e1 e2 e3 e4 => (k.block i (Nat.lt_of_lt_of_le hi h.size) e1 e2 e3 (fun e => by
    rcases hv with q | ⟨g, q, hg⟩ | q
    · exact e4 (q ▸ e)
    · have e' : v'.ownBlock = some i := e
      rw [q] at e'
      injection e' with e'
      omega
    · have e' : v'.ownBlock = some i := e
      rw [q] at e'
      cases e')).trans (h.block i hi e1 e2 e3 e4)⟩
theorem Left.trans [Spare] {S2 : DS} {base : Nat} {M : DM} {a b c : World} {v' : Value} (hd : Turns base M a b) (hk : KeepB base a b) (hv : v'.ownBlock = M.vl.ownBlock ∨ (∃ g, v'.ownBlock = some g ∧ a.heap.size ≤ g) ∨ v'.ownBlock = none) (h2 : Left S2 base { M with vl := v' } b c) : Left S2 base M a c := by
  obtain ⟨v2, d2, t2, k2, o2⟩ := h2
  refine ⟨v2, d2, hd.widen t2 hv, hk.trans k2, ?_⟩
  rcases o2 with e | ⟨g, e, hg⟩ | e
  · have e' : v2.ownBlock = v'.ownBlock := e
    rw [e']; exact hv
  · exact .inr (.inl ⟨g, e, Nat.le_trans hd.size hg⟩)
  · exact .inr (.inr e)

theorem write_no [Spare] (at_ : Int) (v : Value) (w : World) (base : Nat) (M : DM) (S : DS) (h : Dsk w base M S) (hne : reachI S at_ ≠ 0) :
    Calls Try.prog 26 #[.pointer (some ⟨M.p, 0, none⟩), .int .i64 at_, v] w fun e w' => e = .returned (.int .i64 (reachI S at_)) ∧ w = w' := by
  have q : (reachI S at_ != 0) = true := by rw [bne_iff_ne]; exact hne
  clear hne
  go_enter Try.func26, Try.ntmps26
  go_wp2_with fail
  refine (reach_any at_ w base M S h).mono ?_
  rintro e w' ⟨rfl, rfl⟩
  go_wp2
  go_ret
  exact ⟨rfl, rfl⟩
theorem write_size [Spare] (at_ : Int) (A : Option Addr) (n c : Nat) (w : World) (base : Nat) (M : DM) (S : DS) (h : Dsk w base M S) (h0 : reachI S at_ = 0) (hn : n ≠ S.size) (_hm : n ≤ 9223372036854775807) :
    Calls Try.prog 26 #[.pointer (some ⟨M.p, 0, none⟩), .int .i64 at_, .slice A n c] w fun e w' => e = .returned (.int .i64 3) ∧ w = w' := by
  have R := Lib.hid h0
  have hc0 := h.c0
  have q : ((n : Int) != (S.size : Int)) = true := by rw [bne_iff_ne]; omega
  clear h0 hn
  go_enter Try.func26, Try.ntmps26
  go_wp2_with fail
  refine (reach_any at_ w base M S h).mono ?_
  rintro e w' ⟨rfl, rfl⟩
  rw [R.out]
  go_wp2
  go_ret
  exact ⟨rfl, rfl⟩
theorem write_ok [Spare] (k b o c : Nat) (F : Nat → Nat) (w : World) (base : Nat) (M : DM) (S : DS) (h : Dsk w base M S) (hbase : base ≤ w.heap.size) (hd : S.down = false) (hk : k < S.N) (hL : S.loose.length < 1000000) (hb : Bytes w (some ⟨b, o, none⟩) S.size F) :
    Calls Try.prog 26 #[.pointer (some ⟨M.p, 0, none⟩), .int .i64 k, .slice (some ⟨b, o, none⟩) S.size c] w fun e w' => e = .returned (.int .i64 (strikeI (keepS S k F))) ∧ Left (strikeS (keepS S k F)) base M w w' := by
  have R := Lib.hid (show reachI S k = 0 by unfold reachI; rw [if_neg (by rw [hd]; simp), if_neg (by omega)])
  have hc0 := h.c0
  have hS := h.hS
  have q : ((S.size : Int) != (S.size : Int)) = false := by simp
  clear hd
  go_enter Try.func26, Try.ntmps26
  go_wp2_with fail
  refine (reach_any k w base M S h).mono ?_
  rintro e w' ⟨rfl, rfl⟩
  rw [R.out]
  go_wp2_with fail
  refine (keep_any k b o c F w base M S h hbase hk hL hb).mono ?_
  rintro e w1 ⟨rfl, v1, d1, t1, k1, o1⟩
  have D1 := Lib.hid d1
  have T1 := Lib.hid t1
  have K1 := Lib.hid k1
  have O1 := Lib.hid o1
  clear d1 t1 k1 o1
  go_wp2_with fail
  refine (strike_any w1 base { M with vl := v1 } (keepS S k F) D1.out).mono ?_
  rintro e w2 ⟨rfl, d2, t2, k2⟩
  have LL : Left (strikeS (keepS S k F)) base M w w2 := Left.trans T1.out K1.out (O1.out.elim .inl fun q => .inr (.inl q)) ⟨v1, d2, t2, k2, .inl rfl⟩
  have HL := Lib.hid LL
  clear d2 t2 k2 LL
  go_wp2
  go_ret
  exact ⟨rfl, HL.out⟩
end Go.Proofs.Ytdbfmllcapikkaa
/- The contract of settle: a write's first bytes are made fast. -/
namespace Go.Proofs.Ytdbfmllcapikkaa
open Go.RowKit

theorem BRow.secV [Spare] {w : World} {base g n : Nat} {F : Nat → Nat} (h : BRow w g n F) (hb : base ≤ g) (hE : Spare.ok g) : SecV w base n (.slice (some ⟨g, 0, none⟩) n n) F := by
  obtain ⟨⟨c, h1, _, h3⟩, h4, h5⟩ := h
  exact ⟨h4, .inr ⟨g, n, c, rfl, Nat.le_refl _, h5, ⟨hb, hE⟩, h1, h3⟩⟩
def settleS (S : DS) (k done : Nat) (F : Nat → Nat) : DS := { S with fast := upd S.fast k (copyF (S.fast k) 0 done F) }
def SettlePost [Spare] (S' : DS) (base : Nat) (M : DM) (w : World) (e : Ending) (w' : World) : Prop := e = .returned (.tuple #[]) ∧ Dsk w' base M S' ∧ Turns base M w w' ∧ KeepB base w w'

set_option maxHeartbeats 1000000 in
theorem settle_any [Spare] (k done b o c : Nat) (F : Nat → Nat) (w : World) (base : Nat) (M : DM) (S : DS) (h : Dsk w base M S) (hbase : base ≤ w.heap.size) (hk : k < S.N) (hd : done ≤ S.size) (hb : Bytes w (some ⟨b, o, none⟩) S.size F) (hc : S.size ≤ c) :
    Calls Try.prog 55 #[.pointer (some ⟨M.p, 0, none⟩), .agg #[.int .i64 k, .slice (some ⟨b, o, none⟩) S.size c], .int .i64 done] w (SettlePost (settleS S k done F) base M w) := by
  have hN := h.hN
  have hS := h.hS
  obtain ⟨W, hW⟩ : ∃ W, W = w.alloc (.cells #[.int .i64 (k : Int), .slice (some ⟨b, o, none⟩) S.size c] 111) := ⟨_, rfl⟩
  have lW : Below w.heap.size w W := by rw [hW]; exact (Below.refl _ _).alloc (Nat.le_refl _) _
  have sW : W.heap.size = w.heap.size + 1 := by rw [hW]; simp
  have x0 : W.cell? ⟨w.heap.size, 0, none⟩ = some (.int .i64 (k : Int)) := by rw [hW]; simp
  have x1 : W.cell? ⟨w.heap.size, 1, none⟩ = some (.slice (some ⟨b, o, none⟩) S.size c) := by rw [hW]; simp
  have D := h.below lW
  have hc1 := D.c1
  obtain ⟨V, v1, v2⟩ := D.vf
  have hvk := v1.cell hk
  have sk := Lib.hid (v2 k hk)
  have hbW := Lib.hid (hb.below lW (Nat.le_refl _))
  have D0 := Lib.hid D
  have LW := Lib.hid lW
  have ltp : M.p < W.heap.size := (Array.getElem?_eq_some_iff.1 D.hp).1
  have ltf : M.bf < W.heap.size := v1.lt
  clear D v1 v2 lW hb
  go_enter Try.func55, Try.ntmps55
  go_wp2
  rw [← hW]
  have HW := Lib.hid hW
  clear hW
  go_region_held3 (fun w' => w'.cell? ⟨M.p, 1, none⟩ = some (.slice (some ⟨M.bf, 0, none⟩) S.N S.N) ∧ w'.cell? ⟨w.heap.size, 0, none⟩ = some (.int .i64 (k : Int)) ∧ w'.cell? ⟨M.bf, k, none⟩ = some (V k))
    (first | exact ⟨hc1, x0, hvk⟩ | exact ⟨(l1.cell (p := ⟨M.p, 1, none⟩) (by simp; omega)).trans hc1, (l1.cell (p := ⟨w.heap.size, 0, none⟩) (by simp; omega)).trans x0, (l1.cell (p := ⟨M.bf, k, none⟩) (by simp; omega)).trans hvk⟩ | go_keep)
    (first | (go_at_call 42; refine (whole_any (V k) (S.fast k) _ base M S (D0.out.below (below_drewN (Below.refl _ _) _)) (sk.out.keep (keepB_below (below_drewN (Below.refl _ _) _)))).mono ?_; rintro e w1 ⟨rfl, r1, l1⟩))
  have l1' : Below W.heap.size W w1 := ⟨l1.os, l1.tape, l1.output, l1.size, l1.block⟩
  have r1' : BRow w1 (w.heap.size + 1) S.size (S.fast k) := by rw [← sW]; exact r1
  have x1' : w1.cell? ⟨w.heap.size, 1, none⟩ = some (.slice (some ⟨b, o, none⟩) S.size c) := (l1'.cell (p := ⟨w.heap.size, 1, none⟩) (by simp; omega)).trans x1
  have hb1 := Lib.hid ((hbW.out.below l1' (Nat.le_refl _)).head done hd)
  have R1 := Lib.hid r1'
  have L1 := Lib.hid l1'
  clear l1 r1 l1' r1' x1 hc1 hvk
  go_wp2_with (with_reducible refine wpList_copy_bytes rfl (.tmp 18) (.tmp 22) 42 42 rfl Try.underlying42 u8size _ _ _ _ _ _ rfl rfl (w.heap.size + 1) 0 S.size done _ _ R1.out hb1.out ?e1 ?e2 ?e3 ?e4)
  case e1 => exact (Nat.min_eq_left hd).symm
  case e3 => omega
  case e4 =>
    intro w2 r2 g2
    have l2 : Below W.heap.size W w2 := L1.out.grown g2 L1.out.size (by rintro j ⟨⟩; omega)
    have D2 := D0.out.below l2
    have y0 := (l2.cell (p := ⟨w.heap.size, 0, none⟩) (by simp; omega)).trans x0
    have yc1 := D2.c1
    obtain ⟨V2, u1, _⟩ := D2.vf
    have yk := u1.cell hk
    have yf := u1.frozen k
    obtain ⟨D3, k3⟩ := D2.setFast (k := k) (r2.secV (base := base) (by omega) (h.hE _ (by omega)))
    have t3 : Turns base M w (w2.setCell ⟨M.bf, k, none⟩ (.slice (some ⟨w.heap.size + 1, 0, none⟩) S.size S.size)) :=
      (Turns.of_below LW.out).trans ((Turns.of_below l2).trans ⟨rfl, rfl, rfl, by simp [World.setCell], fun j _ _ hj _ _ => Below.heap_setCell w2 ⟨M.bf, k, none⟩ _ j hj⟩)
    have kk := (keepB_below (base := base) LW.out).trans ((keepB_below (base := base) l2).trans k3)
    have DD := Lib.hid D3
    have TT := Lib.hid t3
    have KK := Lib.hid kk
    clear D3 t3 kk k3 D2 u1 l2 g2 r2 R1 hb1 x0 x1'
    go_wp2
    go_region
    all_goals
      go_end0
      exact ⟨rfl, DD.out.keep rfl rfl rfl (fun _ _ => rfl) (fun _ _ _ hg => hg) (Nat.le_refl _), ⟨TT.out.os, TT.out.tape, TT.out.output, TT.out.size, TT.out.block⟩, KK.out⟩
  all_goals exact fun _ => rfl
end Go.Proofs.Ytdbfmllcapikkaa
/- The contracts of chooser and of what it hands out: the fates, one a call. -/
namespace Go.Proofs.Ytdbfmllcapikkaa
open Go.RowKit

/-- A slice of ints that can be read. -/
def Ints (w : World) (A : Option Addr) (n : Nat) (fa : Nat → Int) : Prop :=
  n ≤ 9223372036854775807 ∧ (∀ i, i < n → -9223372036854775808 ≤ fa i ∧ fa i ≤ 9223372036854775807) ∧ (0 < n → ∃ b o, A = some ⟨b, o, none⟩ ∧ ∀ i, i < n → w.cell? ⟨b, o + i, none⟩ = some (.int .i64 (fa i)))
theorem Ints.keep {w w' : World} {A : Option Addr} {n : Nat} {fa : Nat → Int} (h : Ints w A n fa) (k : ∀ b o, A = some ⟨b, o, none⟩ → 0 < n → w'.heap[b]? = w.heap[b]?) : Ints w' A n fa :=
  ⟨h.1, h.2.1, fun hn => by
    obtain ⟨b, o, rfl, hc⟩ := h.2.2 hn
    exact ⟨b, o, rfl, fun i hi => (World.cell?_of_block (w := w) (a := ⟨b, o + i, none⟩) (k b o rfl hn)).trans (hc i hi)⟩⟩
theorem Ints.blk {w : World} {A : Option Addr} {n : Nat} {fa : Nat → Int} (h : Ints w A n fa) : ∀ b o, A = some ⟨b, o, none⟩ → 0 < n → b < w.heap.size := by
  rintro b o rfl hn
  obtain ⟨b', o', e, hc⟩ := h.2.2 hn
  injection e with e
  injection e with e1 e2
  subst e1
  have := hc 0 hn
  rcases Nat.lt_or_ge b w.heap.size with hlt | hge
  · exact hlt
  · rw [World.cell?, Array.getElem?_eq_none hge] at this
    cases this

/-- The k-th choice of n. -/
def choiceN (fa : Nat → Int) (L i n : Nat) : Nat := if i < L then (fa i % (n : Int)).toNat else 0
def nextN (L i : Nat) : Nat := if i < L then i + 1 else i

theorem tmod_as (x : Int) (n : Nat) (hn : 1 ≤ n) : x % (n : Int) = if x.tmod (n : Int) < 0 then x.tmod (n : Int) + n else x.tmod (n : Int) := by
  have h1 := Int.tmod_eq_emod (a := x) (b := (n : Int))
  have h2 := Int.emod_nonneg x (show (n : Int) ≠ 0 by omega)
  have h3 := Int.emod_lt_of_pos x (show (0 : Int) < n by omega)
  by_cases h : 0 ≤ x ∨ (n : Int) ∣ x
  · rw [if_pos h] at h1
    split <;> omega
  · rw [if_neg h] at h1
    have h4 : ((n : Int).natAbs : Int) = n := by omega
    split <;> omega
theorem wrap_fate (x : Int) (n : Nat) (hn : 1 ≤ n) (hn2 : n ≤ 1000000) (h : x.tmod (n : Int) < 0) : wrap64 (x.tmod (n : Int) + n) = (((x % (n : Int)).toNat : Nat) : Int) := by
  have e := tmod_as x n hn
  rw [if_pos h] at e
  have h2 := Int.emod_nonneg x (show (n : Int) ≠ 0 by omega)
  have h3 := Int.emod_lt_of_pos x (show (0 : Int) < n by omega)
  rw [← e]
  unfold wrap64
  omega
theorem fate_pos (x : Int) (n : Nat) (hn : 1 ≤ n) (h : 0 ≤ x.tmod (n : Int)) : x.tmod (n : Int) = (((x % (n : Int)).toNat : Nat) : Int) := by
  have e := tmod_as x n hn
  rw [if_neg (by omega)] at e
  have h2 := Int.emod_nonneg x (show (n : Int) ≠ 0 by omega)
  omega

theorem choose_any (A : Option Addr) (L c i n p q : Nat) (fa : Nat → Int) (w : World) (h : Ints w A L fa) (hi : i ≤ L) (hn : 1 ≤ n) (hn2 : n ≤ 1000000) (hb0 : w.heap[p]? = some (.cells #[.int .i64 i] 3 (0, 0))) (hq : w.cell? ⟨q, 0, none⟩ = some (.slice A L c)) :
    Calls Try.prog 67 #[.int .i64 n, .pointer (some ⟨p, 0, none⟩), .pointer (some ⟨q, 0, none⟩)] w fun e w' =>
      e = .returned (.int .i64 (choiceN fa L i n)) ∧ w'.heap[p]? = some (.cells #[.int .i64 (nextN L i)] 3 (0, 0)) ∧ w.grownBy w' (some p) := by
  have hp : w.cell? ⟨p, 0, none⟩ = some (.int .i64 i) := cell_of_row w p 0 _ _ _ hb0
  have hf : w.frozen? ⟨p, 0, none⟩ = false := by simp [World.frozen?, hb0]
  have HB := Lib.hid hb0
  clear hb0
  obtain ⟨h1, h2, h3⟩ := h
  by_cases hlt : i < L
  · obtain ⟨b, o, rfl, hc⟩ := h3 (by omega)
    have hci := hc i hlt
    have hb := h2 i hlt
    have hne : ((i : Int) == (L : Int)) = false := by simp; omega
    have C := Lib.hid (show choiceN fa L i n = (fa i % (n : Int)).toNat from if_pos hlt)
    have NX := Lib.hid (show nextN L i = i + 1 from if_pos hlt)
    obtain ⟨x, hx⟩ : ∃ x, x = fa i := ⟨_, rfl⟩
    rw [← hx] at hci hb
    have HX := Lib.hid hx
    clear h2 h3 hc hx
    go_enter Try.func67, Try.ntmps67
    go_wp2
    · rename_i hneg
      have hz : wrap64 (x.tmod (n : Int) + n) = ((choiceN fa L i n : Nat) : Int) := by
        rw [C.out, ← HX.out]; exact wrap_fate x n hn hn2 hneg
      rw [hz]
      go_ret
      exact ⟨rfl, by rw [NX.out]; exact heap_store w p 0 _ _ _ HB.out, grownBy_setCell' w p _⟩
    · rename_i hneg
      have hz : x.tmod (n : Int) = ((choiceN fa L i n : Nat) : Int) := by
        rw [C.out, ← HX.out]; exact fate_pos x n hn hneg
      rw [hz]
      go_ret
      exact ⟨rfl, by rw [NX.out]; exact heap_store w p 0 _ _ _ HB.out, grownBy_setCell' w p _⟩
  · have C := Lib.hid (show choiceN fa L i n = 0 from if_neg hlt)
    have NX := Lib.hid (show nextN L i = i from if_neg hlt)
    have hne : ((i : Int) == (L : Int)) = true := by simp; omega
    clear h2 h3
    go_enter Try.func67, Try.ntmps67
    go_wp2
    go_ret
    exact ⟨by rw [C.out]; rfl, by rw [NX.out]; exact HB.out, World.grownBy.refl w _⟩
end Go.Proofs.Ytdbfmllcapikkaa
/- The contract of Flush. -/
namespace Go.Proofs.Ytdbfmllcapikkaa
open Go.RowKit

theorem flush_down [Spare] (w : World) (base : Nat) (M : DM) (S : DS) (h : Dsk w base M S) (hd : S.down = true) :
    Calls Try.prog 52 #[.pointer (some ⟨M.p, 0, none⟩)] w fun e w' => e = .returned (.int .i64 4) ∧ w = w' := by
  have hc5 := h.c5
  rw [hd] at hc5
  go_enter Try.func52, Try.ntmps52
  go_wp2
  go_ret
  exact ⟨rfl, rfl⟩

/-- What is fast after the first j loose writes. -/
def fastTo (f : Nat → Nat → Nat) (l : List (Nat × (Nat → Nat))) : Nat → Nat → Nat := l.foldl (fun f x => upd f x.1 x.2) f
def flushS (S : DS) : DS := { strikeS S with fast := fastTo S.fast S.loose, loose := [] }

theorem flush_no [Spare] (w : World) (base : Nat) (M : DM) (S : DS) (h : Dsk w base M S) (hd : S.down = false) (hs : strikeI S = 4) :
    Calls Try.prog 52 #[.pointer (some ⟨M.p, 0, none⟩)] w fun e w' => e = .returned (.int .i64 4) ∧ Dsk w' base M (strikeS S) ∧ Turns base M w w' ∧ KeepB base w w' := by
  have hc5 := h.c5
  rw [hd] at hc5
  have R := Lib.hid hs
  clear hs
  go_enter Try.func52, Try.ntmps52
  go_wp2_with fail
  refine (strike_any w base M S h).mono ?_
  rintro e w1 ⟨rfl, d1, t1, k1⟩
  rw [R.out]
  have D1 := Lib.hid d1
  have T1 := Lib.hid t1
  have K1 := Lib.hid k1
  clear d1 t1 k1
  go_wp2
  go_ret
  exact ⟨rfl, D1.out, T1.out, K1.out⟩

theorem strikeS_loose (S : DS) : (strikeS S).loose = S.loose := by unfold strikeS; split <;> (try split) <;> rfl
theorem strikeS_N (S : DS) : (strikeS S).N = S.N := by unfold strikeS; split <;> (try split) <;> rfl
theorem strikeS_size (S : DS) : (strikeS S).size = S.size := by unfold strikeS; split <;> (try split) <;> rfl
theorem strikeS_fast (S : DS) : (strikeS S).fast = S.fast := by unfold strikeS; split <;> (try split) <;> rfl
theorem strikeS_now (S : DS) : (strikeS S).now = S.now := by unfold strikeS; split <;> (try split) <;> rfl

/-- One loose write in memory. -/
theorem looseCells_get : ∀ (l : List (Nat × (Nat → Nat))) (vs : List Value) (j : Nat) (x : Nat × (Nat → Nat)) (v : Value), l[j]? = some x → vs[j]? = some v → (looseCells l vs)[j * 2]? = some (.int .i64 (x.1 : Int)) ∧ (looseCells l vs)[j * 2 + 1]? = some v
  | [], _, j, x, v, h, _ => by simp at h
  | _ :: _, [], j, x, v, _, h => by simp at h
  | y :: r, u :: vs, 0, x, v, h, k => by
    simp at h k
    subst h k
    exact ⟨rfl, rfl⟩
  | y :: r, u :: vs, j + 1, x, v, h, k => by
    have := looseCells_get r vs j x v (by simpa using h) (by simpa using k)
    rw [show (j + 1) * 2 = j * 2 + 1 + 1 by omega, show (j * 2 + 1 + 1 + 1) = (j * 2 + 1) + 1 + 1 by omega]
    exact this
theorem SecV.isSlice [Spare] {w : World} {base size : Nat} {v : Value} {F : Nat → Nat} (h : SecV w base size v F) : ∃ A n c, v = .slice A n c := by
  rcases h.2 with ⟨h2, _⟩ | ⟨g, c, _, h2, _⟩
  · exact ⟨_, _, _, h2⟩
  · exact ⟨_, _, _, h2⟩
theorem Dsk.looseAt [Spare] {w : World} {base : Nat} {M : DM} {S : DS} (h : Dsk w base M S) (j : Nat) (hj : j < S.loose.length) :
    ∃ g c x v, M.vl = .slice (some ⟨g, 0, none⟩) S.loose.length c ∧ base ≤ g ∧ g < w.heap.size ∧ S.loose[j]? = some x ∧ w.cell? ⟨g, j * 2, none⟩ = some (.int .i64 (x.1 : Int)) ∧ w.cell? ⟨g, j * 2 + 1, none⟩ = some v ∧ x.1 < S.N ∧ SecN w base S.size v x.2 ∧ ∀ i, w.frozen? ⟨g, i, none⟩ = false := by
  obtain ⟨vs, l1, l2, l3⟩ := h.lo
  rcases l2.2 with ⟨_, h3⟩ | ⟨g, c, cur, a1, a2, a3, a4, a5, a6, a7⟩
  · omega
  · have e1 := List.getElem?_eq_getElem hj
    have e2 := List.getElem?_eq_getElem (show j < vs.length by omega)
    obtain ⟨b1, b2⟩ := looseCells_get _ _ _ _ _ e1 e2
    have f := fun i => cell_of_row w g i _ _ _ a3
    have tk : ∀ i, i < S.loose.length * 2 → (looseCells S.loose vs)[i]? = cur[i]? := fun i hi => by
      rw [← a7, List.getElem?_take_of_lt hi, Array.getElem?_toList]
    have q := l3 j _ _ e2 e1
    exact ⟨g, c, _, _, a1, a2, (Array.getElem?_eq_some_iff.1 a3).1, e1, by rw [f, ← tk _ (by omega)]; exact b1, by rw [f, ← tk _ (by omega)]; exact b2, q.1, q.2, fun i => by simp [World.frozen?, a3]⟩

/-- The loose writes go. -/
theorem Dsk.noLoose [Spare] {w : World} {base : Nat} {M : DM} {S : DS} (h : Dsk w base M S) : Dsk (w.setCell ⟨M.p, 3, none⟩ (.slice none 0 0)) base { M with vl := .slice none 0 0 } { S with loose := [] } := by
  obtain ⟨V, v1, v2⟩ := h.vf
  obtain ⟨U, u1, u2⟩ := h.vn
  have hb : KeepB base w (w.setCell ⟨M.p, 3, none⟩ (.slice none 0 0)) := keepB_store h.hp (by decide)
  have nf : M.bf ≠ M.p := by obtain ⟨c, hc, _⟩ := v1; exact type_ne hc h.hp (by decide)
  have nn : M.bn ≠ M.p := by obtain ⟨c, hc, _⟩ := u1; exact type_ne hc h.hp (by decide)
  refine ⟨?_, h.bp, ⟨V, v1.setOther nf _, fun j hj => (v2 j hj).keep hb⟩, ⟨U, u1.setOther nn _, fun j hj => (u2 j hj).keep hb⟩, h.bfn, h.bbf, h.bbn, ⟨[], rfl, ⟨rfl, .inl ⟨rfl, rfl⟩⟩, fun j v x hj _ => by simp at hj⟩, h.hN, h.hS, h.hA, by simp, h.hC, fun g hg => h.hE g (by rw [size_set] at hg; exact hg)⟩
  show (w.setCell ⟨M.p, 3, none⟩ (.slice none 0 0)).heap[M.p]? = _
  rw [heap_store w _ _ _ _ _ h.hp]
  rfl

theorem flush_ok [Spare] (w : World) (base : Nat) (M : DM) (S : DS) (h : Dsk w base M S) (hd : S.down = false) (hs : strikeI S = 0) :
    Calls Try.prog 52 #[.pointer (some ⟨M.p, 0, none⟩)] w fun e w' => e = .returned (.int .i64 0) ∧ Dsk w' base { M with vl := .slice none 0 0 } (flushS S) ∧ Turns base M w w' ∧ KeepB base w w' := by
  have hc5 := h.c5
  rw [hd] at hc5
  have R := Lib.hid hs
  clear hs
  go_enter Try.func52, Try.ntmps52
  go_wp2_with fail
  refine (strike_any w base M S h).mono ?_
  rintro e w1 ⟨rfl, d1, t1, k1⟩
  rw [R.out]
  have hc3 := d1.c3
  obtain ⟨n, c, A, hv⟩ : ∃ n c A, M.vl = .slice A n c ∧ n = S.loose.length := by
    obtain ⟨vs, l1, l2, l3⟩ := d1.lo
    rw [strikeS_loose] at l1 l2
    rcases l2.2 with ⟨h2, h3⟩ | ⟨g, cap, cur, a1, a2, a3, a4⟩
    · exact ⟨0, 0, none, h2, by omega⟩
    · exact ⟨_, _, _, a1, rfl⟩
  rw [hv.1] at hc3
  obtain ⟨hv1, hv2⟩ := hv
  have D1 := Lib.hid d1
  have T1 := Lib.hid t1
  have K1 := Lib.hid k1
  have hL := h.hL
  have hLL := strikeS_loose S
  clear d1 t1 k1
  subst hv2
  go_wp2
  go_loopw [21] (fun i wr => ∃ k : Nat, k ≤ S.loose.length ∧ i = .int .i64 k ∧ Dsk wr base M { strikeS S with fast := fastTo S.fast (S.loose.take k) } ∧ Turns base M w wr ∧ KeepB base w wr) (fun i _ => S.loose.length - (intOf i).toNat)
  case atStart =>
    refine ⟨0, Nat.zero_le _, rfl, ?_, T1.out, K1.out⟩
    have := D1.out
    rw [List.take_zero, show fastTo S.fast [] = (strikeS S).fast from (strikeS_fast S).symm]
    exact this
  case round =>
    obtain ⟨k, hk, rfl, hD, hT, hK⟩ := hrel
    by_cases hlt : k < S.loose.length
    · obtain ⟨g, c', x, v, e1, e2, e3, e4, e5, e6, e7, e8, e0⟩ := hD.looseAt k (by show k < (strikeS S).loose.length; rw [strikeS_loose]; exact hlt)
      rw [hv1] at e1
      injection e1 with e1 q1 q2
      subst e1
      clear q1 q2
      obtain ⟨a1, a2, a3, rfl⟩ := e8.1.isSlice
      have y1 := hD.c1
      have yf1 := hD.frozen 1
      have ltp : M.p < wr.heap.size := (Array.getElem?_eq_some_iff.1 hD.hp).1
      obtain ⟨V, v1, _⟩ := id hD.vf
      have ltf : M.bf < wr.heap.size := v1.lt
      have z1 := v1.cell e7
      have z2 := v1.frozen x.1
      have e7' : x.1 < S.N := by rw [← strikeS_N]; exact e7
      rw [strikeS_N] at y1
      have hN := h.hN
      have f5 : wr.frozen? ⟨g, k * 2, none⟩ = false ∧ wr.frozen? ⟨g, k * 2 + 1, none⟩ = false := ⟨e0 _, e0 _⟩
      obtain ⟨D3, k3⟩ := hD.setFast (k := x.1) e8.1
      have t3 : Turns base M wr (wr.setCell ⟨M.bf, x.1, none⟩ (.slice a1 a2 a3)) := ⟨rfl, rfl, rfl, by simp [World.setCell], fun j _ _ hj _ _ => Below.heap_setCell _ ⟨M.bf, x.1, none⟩ _ j hj⟩
      have D4 : Dsk (wr.setCell ⟨M.bf, x.1, none⟩ (.slice a1 a2 a3)) base M { strikeS S with fast := fastTo S.fast (S.loose.take (k + 1)) } := by
        have q : fastTo S.fast (S.loose.take (k + 1)) = upd (fastTo S.fast (S.loose.take k)) x.1 x.2 := by
          have e4' : S.loose[k]? = some x := by rw [← hLL]; exact e4
          rw [List.take_add_one, e4']
          unfold fastTo
          rw [List.foldl_append]
          rfl
        rw [q]
        exact D3
      have lW : Below _ _ (((wr.setCell ⟨M.bf, x.1, none⟩ (.slice a1 a2 a3)).alloc (.cells #[.int .i64 (x.1 : Int), .slice a1 a2 a3] 111)).drew) := ((Below.refl (wr.setCell ⟨M.bf, x.1, none⟩ (.slice a1 a2 a3)).heap.size (wr.setCell ⟨M.bf, x.1, none⟩ (.slice a1 a2 a3))).alloc (Nat.le_refl _) _).drew
      have DD := Lib.hid (D4.below lW)
      have TT := Lib.hid (hT.trans (t3.trans (Turns.of_below lW)))
      have KK := Lib.hid (hK.trans (k3.trans (keepB_below (base := base) lW)))
      clear D3 D4 t3 k3 hD hT hK lW v1 e8
      go_wp2
      go_region
      go_wp2
      go_roundw
      case rel =>
        exact ⟨k + 1, by omega, by go_num, DD.out, TT.out, KK.out⟩
      case measure => simp [intOf]; omega
    · obtain rfl : k = S.loose.length := by omega
      rw [List.take_length] at hD
      have y3 := hD.c3
      have f3 := hD.frozen 3
      have D2 := Lib.hid hD.noLoose
      have t2 : Turns base M w _ := hT.trans (Turns.store wr 3 (.slice none 0 0))
      have k2 := hK.trans (keepB_store (i := 3) (v := .slice none 0 0) hD.hp (by decide))
      have T2 := Lib.hid t2
      have K2 := Lib.hid k2
      clear t2 k2 hT hK hD
      go_wp2
      go_ret
      exact ⟨rfl, D2.out, T2.out, K2.out⟩
end Go.Proofs.Ytdbfmllcapikkaa
/- The contract of Crash. -/
namespace Go.Proofs.Ytdbfmllcapikkaa
open Go.RowKit

theorem chooser_any (A : Option Addr) (L c : Nat) (w : World) : Calls Try.prog 54 #[.slice A L c] w fun e w' =>
    e = .returned (.func (Fn.func 67) #[] #[.pointer (some ⟨w.heap.size + 1, 0, none⟩), .pointer (some ⟨w.heap.size, 0, none⟩)]) ∧ w' = (w.alloc (.cells #[.slice A L c] 67)).alloc (.cells #[.int .i64 0] 3) := by
  go_enter Try.func54, Try.ntmps54
  go_wp2
  go_ret
  exact ⟨rfl, rfl⟩

/-- What is fast, and the next fate, after the first j loose writes of a crash. -/
def crashTo (S : DS) (fa : Nat → Int) (L : Nat) : Nat → (Nat → Nat → Nat) × Nat
  | 0 => (S.fast, 0)
  | j + 1 =>
    let p := crashTo S fa L j
    match S.loose[j]? with
    | none => p
    | some x => if j + 1 = S.loose.length then (upd p.1 x.1 (copyF (p.1 x.1) 0 (choiceN fa L p.2 (S.size + 1)) x.2), nextN L p.2)
      else (if choiceN fa L p.2 2 = 1 then upd p.1 x.1 (copyF (p.1 x.1) 0 S.size x.2) else p.1, nextN L p.2)
def nowTo (f now : Nat → Nat → Nat) (l : List (Nat × (Nat → Nat))) : Nat → Nat → Nat := l.foldl (fun n x => upd n x.1 (f x.1)) now
def crashS (S : DS) (fa : Nat → Int) (L : Nat) : DS := { S with fast := (crashTo S fa L S.loose.length).1, now := nowTo (crashTo S fa L S.loose.length).1 S.now S.loose, loose := [], armed := 0, down := false }

theorem choiceN_lt (fa : Nat → Int) (L i n : Nat) (hn : 1 ≤ n) : choiceN fa L i n < n := by
  unfold choiceN
  have h1 := Int.emod_nonneg (fa i) (show (n : Int) ≠ 0 by omega)
  have h2 := Int.emod_lt_of_pos (fa i) (show (0 : Int) < n by omega)
  split <;> omega
theorem SecN.isOwn [Spare] {w : World} {base size : Nat} {v : Value} {F : Nat → Nat} (h : SecN w base size v F) : ∃ g c, v = .slice (some ⟨g, 0, none⟩) size c ∧ size ≤ c := by
  rcases h.1.2 with ⟨h2, _⟩ | ⟨g, c, _, h2, h3, _⟩
  · exact absurd h2 h.2
  · exact ⟨_, _, h2, h3⟩
theorem SecN.bytes [Spare] {w : World} {base size g c : Nat} {F : Nat → Nat} (h : SecN w base size (.slice (some ⟨g, 0, none⟩) size c) F) : Bytes w (some ⟨g, 0, none⟩) size F := by
  rcases h.1.2 with ⟨h2, _⟩ | ⟨g', c', cs, h2, h3, h4, h5, h6, h7⟩
  · cases h2
  · injection h2 with q1 q2 q3
    injection q1 with q1
    injection q1 with q1
    subst q1
    exact ⟨by omega, h.1.1, fun _ => ⟨g, 0, rfl, fun i hi => (cell_of_row w g (0 + i) _ _ _ h6).trans (by rw [Nat.zero_add]; exact h7 i hi)⟩⟩
/-- A call that turns the fates' counter alone. -/
theorem Dsk.grown [Spare] {w w' : World} {base p : Nat} {i : Int} {M : DM} {S : DS} (h : Dsk w base M S) (hp : w.heap[p]? = some (.cells #[.int .i64 i] 3 (0, 0))) (ha : p ≠ M.p ∧ p ≠ M.bf ∧ p ≠ M.bn ∧ M.vl.ownBlock ≠ some p) (g : w.grownBy w' (some p)) : Dsk w' base M S ∧ KeepB base w w' := by
  have lt : ∀ {k : Nat} {o : Obj}, w.heap[k]? = some o → k < w.heap.size := fun e => (Array.getElem?_eq_some_iff.1 e).1
  obtain ⟨V, v1, _⟩ := h.vf
  obtain ⟨U, u1, _⟩ := h.vn
  obtain ⟨vs, _, l2, _⟩ := h.lo
  have ne : ∀ {k : Nat}, k ≠ p → some k ≠ some p := fun a b => a (by injection b)
  have kb : KeepB base w w' := fun j cs _ hj => (g.block j (lt hj) (ne (type_ne hj hp (by decide)))).trans hj
  exact ⟨h.keep (g.block _ (lt h.hp) (ne ha.1.symm)) (g.block _ v1.lt (ne ha.2.1.symm)) (g.block _ u1.lt (ne ha.2.2.1.symm)) (fun k hk => g.block k (l2.lt k hk).2 (ne fun e => ha.2.2.2 (by rw [hk, e]))) kb g.size, kb⟩

/-- What holds at a round of the first loop. -/
structure CI [Spare] (A : Option Addr) (L c : Nat) (fa : Nat → Int) (base : Nat) (M : DM) (S : DS) (w wr : World) (k : Nat) : Prop where
  d : Dsk wr base M { S with fast := (crashTo S fa L k).1 }
  t : Turns base M w wr
  kb : KeepB base w wr
  le : (crashTo S fa L k).2 ≤ L
  nx : wr.heap[w.heap.size + 1]? = some (.cells #[.int .i64 (crashTo S fa L k).2] 3 (0, 0))
  bx : wr.cell? ⟨w.heap.size, 0, none⟩ = some (.slice A L c)
theorem Dsk.away [Spare] {w : World} {base : Nat} {M : DM} {S : DS} (h : Dsk w base M S) (b : Nat) (hb : b < base ∨ w.heap.size ≤ b) : b ≠ M.p ∧ b ≠ M.bf ∧ b ≠ M.bn ∧ M.vl.ownBlock ≠ some b := by
  obtain ⟨V, v1, _⟩ := h.vf
  obtain ⟨U, u1, _⟩ := h.vn
  obtain ⟨vs, _, l2, _⟩ := h.lo
  have a1 := (Array.getElem?_eq_some_iff.1 h.hp).1
  have a2 := v1.lt
  have a3 := u1.lt
  have a4 := h.bp
  have a5 := h.bbf
  have a6 := h.bbn
  refine ⟨by omega, by omega, by omega, fun e => ?_⟩
  have := l2.lt b e
  omega
/-- The fates lie in none of the disk's blocks. -/
def ApartI (A : Option Addr) (L : Nat) (M : DM) : Prop := 0 < L → ∀ b o, A = some ⟨b, o, none⟩ → b ≠ M.p ∧ b ≠ M.bf ∧ b ≠ M.bn ∧ M.vl.ownBlock ≠ some b
theorem Ints.turns {w w' : World} {A : Option Addr} {n base : Nat} {fa : Nat → Int} {M : DM} (h : Ints w A n fa) (hA : ApartI A n M) (t : Turns base M w w') : Ints w' A n fa :=
  h.keep fun b o e hn => by
    obtain ⟨a1, a2, a3, a4⟩ := hA hn b o e
    exact t.block b (h.blk b o e hn) a1 a2 a3 a4

theorem Turns.fates {base p : Nat} {M : DM} {w a b : World} (h : Turns base M w a) (g : a.grownBy b (some p)) (hp : w.heap.size ≤ p) : Turns base M w b :=
  ⟨g.os.trans h.os, g.tape.trans h.tape, g.output.trans h.output, Nat.le_trans h.size g.size, fun k hk e1 e2 e3 e4 => (g.block k (Nat.lt_of_lt_of_le hk h.size) (fun e => by injection e with e; omega)).trans (h.block k hk e1 e2 e3 e4)⟩
theorem CI.next [Spare] {A : Option Addr} {L c p : Nat} {fa : Nat → Int} {base : Nat} {M : DM} {S : DS} {w wr W w2 w3 : World} {k : Nat} (C : CI A L c fa base M S w wr k) (hp : p = w.heap.size + 1) (h0 : Dsk w base M S) (hl : Below wr.heap.size wr W) (g2 : W.grownBy w2 (some p)) (k2 : KeepB base W w2)
    (n2 : w2.heap[p]? = some (.cells #[.int .i64 (nextN L (crashTo S fa L k).2)] 3 (0, 0))) (t3 : Turns base M w2 w3) (k3 : KeepB base w2 w3) (d3 : Dsk w3 base M { S with fast := (crashTo S fa L (k + 1)).1 }) (hn : (crashTo S fa L (k + 1)).2 = nextN L (crashTo S fa L k).2) : CI A L c fa base M S w w3 (k + 1) := by
  subst hp
  have a1 := h0.away (w.heap.size + 1) (.inr (by omega))
  have a2 := h0.away w.heap.size (.inr (by omega))
  have b1 := (Array.getElem?_eq_some_iff.1 C.nx).1
  have b2 := hl.size
  have b3 := g2.size
  refine ⟨d3, ((C.t.trans (Turns.of_below hl)).fates g2 (by omega)).trans t3, ((C.kb.trans (keepB_below hl)).trans k2).trans k3, ?_, ?_, ?_⟩
  · rw [hn]
    have := C.le
    unfold nextN
    split <;> omega
  · rw [hn]
    exact (t3.block _ (Array.getElem?_eq_some_iff.1 n2).1 a1.1 a1.2.1 a1.2.2.1 a1.2.2.2).trans n2
  · refine (World.cell?_of_block (w := w2) (a := ⟨w.heap.size, 0, none⟩) (t3.block _ (by show w.heap.size < _; omega) a2.1 a2.2.1 a2.2.2.1 a2.2.2.2)).trans ?_
    refine (World.cell?_of_block (w := W) (a := ⟨w.heap.size, 0, none⟩) (g2.block _ (by show w.heap.size < _; omega) (fun e => by injection e with e; simp at e))).trans ?_
    exact (hl.cell (p := ⟨w.heap.size, 0, none⟩) (by show w.heap.size < _; omega)).trans C.bx

set_option maxHeartbeats 4000000 in
theorem crash_any [Spare] (A : Option Addr) (L c : Nat) (fa : Nat → Int) (w : World) (base : Nat) (M : DM) (S : DS) (h : Dsk w base M S) (hbase : base ≤ w.heap.size) (hI : Ints w A L fa) (hA : ApartI A L M) :
    Calls Try.prog 33 #[.pointer (some ⟨M.p, 0, none⟩), .slice A L c] w fun e w' => e = .returned (.tuple #[]) ∧ Dsk w' base { M with vl := .slice none 0 0 } (crashS S fa L) ∧ Turns base M w w' ∧ KeepB base w w' := by
  go_enter Try.func33, Try.ntmps33
  go_wp2_with fail
  refine (chooser_any A L c w).mono ?_
  rintro e w1 ⟨rfl, hw1⟩
  have lW : Below w.heap.size w w1 := by rw [hw1]; exact ((Below.refl _ _).alloc (Nat.le_refl _) _).alloc (by simp) _
  have sW : w1.heap.size = w.heap.size + 2 := by rw [hw1]; simp
  have x1 : w1.cell? ⟨w.heap.size, 0, none⟩ = some (.slice A L c) := by rw [hw1]; simp
  have D := h.below lW
  have hc3 := D.c3
  obtain ⟨n, c', A', hv⟩ : ∃ n c A, M.vl = .slice A n c ∧ n = S.loose.length := by
    obtain ⟨vs, l1, l2, l3⟩ := D.lo
    rcases l2.2 with ⟨h2, h3⟩ | ⟨g, cap, cur, a1, a2, a3, a4⟩
    · exact ⟨0, 0, none, h2, by omega⟩
    · exact ⟨_, _, _, a1, rfl⟩
  obtain ⟨hv1, hv2⟩ := hv
  subst hv2
  rw [hv1] at hc3
  have t1 : w1.heap[w.heap.size + 1]? = some (.cells #[.int .i64 0] 3 (0, 0)) := by
    rw [hw1]
    have := heap_alloc_new (w.alloc (.cells #[.slice A L c] 67)) (.cells #[.int .i64 0] 3)
    rw [World.size_alloc] at this
    exact this
  clear hw1
  have LW := Lib.hid lW
  have D0 := Lib.hid D
  clear D lW
  have hL := h.hL
  have tw : Turns base M w w1 := Turns.of_below LW.out
  have C0 : CI A L c fa base M S w w1 0 := ⟨D0.out, tw, keepB_below LW.out, Nat.zero_le _, t1, x1⟩
  have HC := Lib.hid C0
  have HI := Lib.hid hI
  have h0 := Lib.hid h
  clear C0 tw t1 x1 hI h
  go_wp2
  go_loopw [18] (fun i wr => ∃ k : Nat, k ≤ S.loose.length ∧ i = .int .i64 k ∧ CI A L c fa base M S w wr k) (fun i _ => S.loose.length - (intOf i).toNat)
  case atStart => exact ⟨0, Nat.zero_le _, rfl, HC.out⟩
  case round =>
    obtain ⟨k, hk, rfl, hC⟩ := hrel
    by_cases hlt : k < S.loose.length
    · obtain ⟨g, c2, x, v, e1, e2, e3, e4, e5, e6, e7, e8, e0⟩ := hC.d.looseAt k hlt
      rw [hv1] at e1
      injection e1 with e1 q1 q2
      subst e1
      clear q1 q2
      obtain ⟨gb, cb, rfl, hcb⟩ := e8.isOwn
      have y3 := hC.d.c3
      rw [hv1] at y3
      have y0 := hC.d.c0
      have ltp := (Array.getElem?_eq_some_iff.1 hC.d.hp).1
      have ltp' : M.p < w.heap.size := (Array.getElem?_eq_some_iff.1 h0.out.hp).1
      have lsz := hC.t.size
      have ltb := (Array.getElem?_eq_some_iff.1 hC.nx).1
      have hC0 := Lib.hid hC
      have hS := h0.out.hS
      have E8 := Lib.hid e8
      clear hC e8
      by_cases hlast : k + 1 = S.loose.length
      · have qk : ((k : Int) == (S.loose.length : Int) - 1) = true := by rw [beq_iff_eq]; omega
        obtain ⟨W, hW⟩ : ∃ W, W = wr.alloc (.cells #[.int .i64 (x.1 : Int), .slice (some ⟨gb, 0, none⟩) S.size cb] 111) := ⟨_, rfl⟩
        have lW' : Below wr.heap.size wr W := by rw [hW]; exact (Below.refl _ _).alloc (Nat.le_refl _) _
        have sW' : W.heap.size = wr.heap.size + 1 := by rw [hW]; simp
        have z0 : W.cell? ⟨wr.heap.size, 0, none⟩ = some (.int .i64 (x.1 : Int)) := by rw [hW]; simp
        have z1 : W.cell? ⟨wr.heap.size, 1, none⟩ = some (.slice (some ⟨gb, 0, none⟩) S.size cb) := by rw [hW]; simp
        have zp : W.cell? ⟨M.p, 0, none⟩ = some (.int .i64 S.size) := (lW'.cell (p := ⟨M.p, 0, none⟩) (by simp; omega)).trans y0
        have znx : W.heap[w.heap.size + 1]? = some (.cells #[.int .i64 (crashTo S fa L k).2] 3 (0, 0)) := (lW'.block _ ltb).trans hC0.out.nx
        have zbx : W.cell? ⟨w.heap.size, 0, none⟩ = some (.slice A L c) := (lW'.cell (p := ⟨w.heap.size, 0, none⟩) (by simp; omega)).trans hC0.out.bx
        have zI : Ints W A L fa := (HI.out.turns hA hC0.out.t).keep fun b o e hn => lW'.block b (by have := HI.out.blk b o e hn; omega)
        have HW' := Lib.hid hW
        have LW' := Lib.hid lW'
        have ZI := Lib.hid zI
        have ZNX := Lib.hid znx
        have ZBX := Lib.hid zbx
        clear lW' zI znx zbx
        have hwr : IntKind.i64.wrap ((S.size : Int) + 1) = ((S.size + 1 : Nat) : Int) := by
          rw [show IntKind.i64.wrap ((S.size : Int) + 1) = (S.size : Int) + 1 from IntWalk.i64_in _ (by omega)]
          omega
        have hcs := Lib.hid (show (S.size : Int) + 1 = ((S.size + 1 : Nat) : Int) by omega)
        have aw := Lib.hid (h0.out.away (w.heap.size + 1) (.inr (by omega)))
        have hs1 : S.size + 1 ≤ 1000000 := by omega
        have hs0 : 1 ≤ S.size + 1 := by omega
        have n0 : wr.heap.size ≠ w.heap.size + 1 := by omega
        have nM : M.p ≠ w.heap.size + 1 := by omega
        have bM : M.p < W.heap.size := by omega
        have bl : wr.heap.size < W.heap.size := by omega
        have KS := Lib.hid (show ∀ w2, W.drew.grownBy w2 (some (w.heap.size + 1)) → w2.cell? ⟨M.p, 0, none⟩ = some (.int .i64 S.size) ∧ w2.cell? ⟨wr.heap.size, 0, none⟩ = some (.int .i64 (x.1 : Int)) ∧ w2.cell? ⟨wr.heap.size, 1, none⟩ = some (.slice (some ⟨gb, 0, none⟩) S.size cb) from fun w2 g2 =>
          ⟨(World.cell?_of_block (w := W.drew) (a := ⟨M.p, 0, none⟩) (g2.block _ bM (by simpa using nM))).trans zp, (World.cell?_of_block (w := W.drew) (a := ⟨wr.heap.size, 0, none⟩) (g2.block _ bl (by simpa using n0))).trans z0, (World.cell?_of_block (w := W.drew) (a := ⟨wr.heap.size, 1, none⟩) (g2.block _ bl (by simpa using n0))).trans z1⟩)
        have lWd : Below wr.heap.size wr W.drew := LW'.out.drew
        have DK := Lib.hid (show ∀ w2, W.drew.grownBy w2 (some (w.heap.size + 1)) → Dsk w2 base M { S with fast := (crashTo S fa L k).1 } ∧ KeepB base W.drew w2 from fun w2 g2 => (hC0.out.d.below lWd).grown ZNX.out aw.out g2)
        have BK := Lib.hid (show ∀ w2, W.drew.grownBy w2 (some (w.heap.size + 1)) → Bytes w2 (some ⟨gb, 0, none⟩) S.size x.2 from fun w2 g2 => ((E8.out.keep (keepB_below lWd)).keep (DK.out w2 g2).2).bytes)
        have GK := Lib.hid (show ∀ w2, W.drew.grownBy w2 (some (w.heap.size + 1)) → base ≤ w2.heap.size ∧ wr.heap.size < w2.heap.size from fun w2 g2 => ⟨by have := g2.size; simp at this; omega, by have := g2.size; simp at this; omega⟩)
        have CL := Lib.hid (Nat.le_of_lt_succ (choiceN_lt fa L (crashTo S fa L k).2 (S.size + 1) hs0))
        have awl := Lib.hid (h0.out.away wr.heap.size (.inr lsz))
        have E7 := Lib.hid e7
        clear lWd
        go_wp2
        rw [← HW'.out]
        clear HW' hW y3 e5 e6 e0
        clear HC D0 hA hv1 hc3 y0 e2 e3 e7
        go_region_held3 (fun w' => w'.cell? ⟨M.p, 0, none⟩ = some (.int .i64 S.size) ∧ w'.cell? ⟨wr.heap.size, 0, none⟩ = some (.int .i64 (x.1 : Int)) ∧ w'.cell? ⟨wr.heap.size, 1, none⟩ = some (.slice (some ⟨gb, 0, none⟩) S.size cb))
          (first | exact ⟨zp, z0, z1⟩ | exact KS.out _ g2 | exact ⟨d3.c0, (World.cell?_of_block (w := w2) (a := ⟨wr.heap.size, 0, none⟩) (t3.block _ (GK.out _ g2).2 awl.out.1 awl.out.2.1 awl.out.2.2.1 awl.out.2.2.2)).trans (KS.out _ g2).2.1, (World.cell?_of_block (w := w2) (a := ⟨wr.heap.size, 1, none⟩) (t3.block _ (GK.out _ g2).2 awl.out.1 awl.out.2.1 awl.out.2.2.1 awl.out.2.2.2)).trans (KS.out _ g2).2.2⟩ | go_keep)
          (first | (go_at_call 67; rw [hcs.out]; refine (choose_any A L c (crashTo S fa L k).2 (S.size + 1) (w.heap.size + 1) w.heap.size fa W.drew ZI.out hC0.out.le hs0 hs1 ZNX.out ZBX.out).mono ?_; rintro e w2 ⟨rfl, n2, g2⟩) | (go_at_call 55; refine (settle_any x.1 (choiceN fa L (crashTo S fa L k).2 (S.size + 1)) gb 0 cb x.2 w2 base M { S with fast := (crashTo S fa L k).1 } (DK.out w2 g2).1 (GK.out w2 g2).1 E7.out CL.out (BK.out w2 g2) hcb).mono ?_; rintro e w3 ⟨rfl, d3, t3, k3⟩))
        have hcr : crashTo S fa L (k + 1) = (upd (crashTo S fa L k).1 x.1 (copyF ((crashTo S fa L k).1 x.1) 0 (choiceN fa L (crashTo S fa L k).2 (S.size + 1)) x.2), nextN L (crashTo S fa L k).2) := by
          simp only [crashTo, e4, if_pos hlast]
        have CN := Lib.hid (CI.next hC0.out rfl h0.out LW'.out.drew g2 (DK.out w2 g2).2 n2 t3 k3 (by rw [hcr]; exact d3) (by rw [hcr]))
        clear hcr d3 t3 k3 n2 g2
        go_wp2
        go_roundw
        case rel => exact ⟨k + 1, by omega, by go_num, CN.out⟩
        case measure => simp [intOf]; omega
      · have qk : ((k : Int) == (S.loose.length : Int) - 1) = false := by rw [beq_eq_false_iff_ne]; omega
        obtain ⟨W, hW⟩ : ∃ W, W = wr.alloc (.cells #[.int .i64 (x.1 : Int), .slice (some ⟨gb, 0, none⟩) S.size cb] 111) := ⟨_, rfl⟩
        have lW' : Below wr.heap.size wr W := by rw [hW]; exact (Below.refl _ _).alloc (Nat.le_refl _) _
        have sW' : W.heap.size = wr.heap.size + 1 := by rw [hW]; simp
        have z0 : W.cell? ⟨wr.heap.size, 0, none⟩ = some (.int .i64 (x.1 : Int)) := by rw [hW]; simp
        have z1 : W.cell? ⟨wr.heap.size, 1, none⟩ = some (.slice (some ⟨gb, 0, none⟩) S.size cb) := by rw [hW]; simp
        have zp : W.cell? ⟨M.p, 0, none⟩ = some (.int .i64 S.size) := (lW'.cell (p := ⟨M.p, 0, none⟩) (by simp; omega)).trans y0
        have znx : W.heap[w.heap.size + 1]? = some (.cells #[.int .i64 (crashTo S fa L k).2] 3 (0, 0)) := (lW'.block _ ltb).trans hC0.out.nx
        have zbx : W.cell? ⟨w.heap.size, 0, none⟩ = some (.slice A L c) := (lW'.cell (p := ⟨w.heap.size, 0, none⟩) (by simp; omega)).trans hC0.out.bx
        have zI : Ints W A L fa := (HI.out.turns hA hC0.out.t).keep fun b o e hn => lW'.block b (by have := HI.out.blk b o e hn; omega)
        have aw := Lib.hid (h0.out.away (w.heap.size + 1) (.inr (by omega)))
        have n0 : wr.heap.size ≠ w.heap.size + 1 := by omega
        have nM : M.p ≠ w.heap.size + 1 := by omega
        have bM : M.p < W.heap.size := by omega
        have bl : wr.heap.size < W.heap.size := by omega
        have HW' := Lib.hid hW
        have LW' := Lib.hid lW'
        have ZI := Lib.hid zI
        have ZNX := Lib.hid znx
        have ZBX := Lib.hid zbx
        have awl := Lib.hid (h0.out.away wr.heap.size (.inr lsz))
        have E7 := Lib.hid e7
        have hL0 := Lib.hid hlast
        clear lW' zI znx zbx hlast
        go_wp2_with fail
        rw [← HW'.out]
        refine (choose_any A L c (crashTo S fa L k).2 2 (w.heap.size + 1) w.heap.size fa W ZI.out hC0.out.le (by omega) (by omega) ZNX.out ZBX.out).mono ?_
        rintro e w2 ⟨rfl, n2, g2⟩
        have s0 : w2.cell? ⟨M.p, 0, none⟩ = some (.int .i64 S.size) := (World.cell?_of_block (w := W) (a := ⟨M.p, 0, none⟩) (g2.block _ bM (by simpa using nM))).trans zp
        have s1 : w2.cell? ⟨wr.heap.size, 0, none⟩ = some (.int .i64 (x.1 : Int)) := (World.cell?_of_block (w := W) (a := ⟨wr.heap.size, 0, none⟩) (g2.block _ bl (by simpa using n0))).trans z0
        have s2 : w2.cell? ⟨wr.heap.size, 1, none⟩ = some (.slice (some ⟨gb, 0, none⟩) S.size cb) := (World.cell?_of_block (w := W) (a := ⟨wr.heap.size, 1, none⟩) (g2.block _ bl (by simpa using n0))).trans z1
        have dk := (hC0.out.d.below LW'.out).grown ZNX.out aw.out g2
        have bk := ((E8.out.keep (keepB_below LW'.out)).keep dk.2).bytes
        have gs := g2.size
        have gz1 : base ≤ w2.heap.size := by omega
        have gz2 : wr.heap.size < w2.heap.size := by omega
        have DK := Lib.hid dk
        have BK := Lib.hid bk
        have N2 := Lib.hid n2
        have G2 := Lib.hid g2
        clear dk bk n2 g2 gs HW' hW y3 e5 e6 e0 HC D0 hv1 hc3 y0 e2 e3 e7 z0 z1 zp bM bl
        by_cases h1 : choiceN fa L (crashTo S fa L k).2 2 = 1
        · have qc : (((choiceN fa L (crashTo S fa L k).2 2 : Nat) : Int) == 1) = true := by rw [beq_iff_eq]; omega
          have H1 := Lib.hid h1
          clear h1
          go_wp2
          go_region_held3 (fun w' => w'.cell? ⟨M.p, 0, none⟩ = some (.int .i64 S.size) ∧ w'.cell? ⟨wr.heap.size, 0, none⟩ = some (.int .i64 (x.1 : Int)) ∧ w'.cell? ⟨wr.heap.size, 1, none⟩ = some (.slice (some ⟨gb, 0, none⟩) S.size cb))
            (first | exact ⟨s0, s1, s2⟩ | exact ⟨d3.c0, (World.cell?_of_block (w := w2.drew) (a := ⟨wr.heap.size, 0, none⟩) (t3.block _ gz2 awl.out.1 awl.out.2.1 awl.out.2.2.1 awl.out.2.2.2)).trans s1, (World.cell?_of_block (w := w2.drew) (a := ⟨wr.heap.size, 1, none⟩) (t3.block _ gz2 awl.out.1 awl.out.2.1 awl.out.2.2.1 awl.out.2.2.2)).trans s2⟩ | go_keep)
            (first | (go_at_call 55; refine (settle_any x.1 S.size gb 0 cb x.2 w2.drew base M { S with fast := (crashTo S fa L k).1 } (DK.out.1.below ((Below.refl _ _).drew)) gz1 E7.out (Nat.le_refl _) BK.out hcb).mono ?_; rintro e w3 ⟨rfl, d3, t3, k3⟩))
          have hcr : crashTo S fa L (k + 1) = (upd (crashTo S fa L k).1 x.1 (copyF ((crashTo S fa L k).1 x.1) 0 S.size x.2), nextN L (crashTo S fa L k).2) := by
            simp only [crashTo, e4, if_neg hL0.out, if_pos H1.out]
          have CN := Lib.hid (CI.next hC0.out rfl h0.out LW'.out G2.out DK.out.2 N2.out ((Turns.of_below ((Below.refl w2.heap.size w2).drew)).trans t3) ((keepB_below ((Below.refl w2.heap.size w2).drew)).trans k3) (by rw [hcr]; exact d3) (by rw [hcr]))
          clear hcr d3 t3 k3
          go_wp2
          go_roundw
          case rel => exact ⟨k + 1, by omega, by go_num, CN.out⟩
          case measure => simp [intOf]; omega
        · have qc : (((choiceN fa L (crashTo S fa L k).2 2 : Nat) : Int) == 1) = false := by rw [beq_eq_false_iff_ne]; omega
          have hcr : crashTo S fa L (k + 1) = ((crashTo S fa L k).1, nextN L (crashTo S fa L k).2) := by
            simp only [crashTo, e4, if_neg hL0.out, if_neg h1]
          have CN := Lib.hid (CI.next hC0.out rfl h0.out LW'.out G2.out DK.out.2 N2.out (Turns.refl _ _ _) (KeepB.refl _ _) (by rw [hcr]; exact DK.out.1) (by rw [hcr]))
          clear hcr h1
          go_wp2
          go_roundw
          case rel => exact ⟨k + 1, by omega, by go_num, CN.out⟩
          case measure => simp [intOf]; omega
    · obtain rfl : k = S.loose.length := by omega
      obtain ⟨F, hF⟩ : ∃ F, F = (crashTo S fa L S.loose.length).1 := ⟨_, rfl⟩
      have z0 := hC.d
      rw [← hF] at z0
      have Z0 := Lib.hid z0
      have ZT := Lib.hid hC.t
      have ZK := Lib.hid hC.kb
      have HF := Lib.hid hF
      have y3 := z0.c3
      rw [hv1] at y3
      clear z0 hC hF HC D0
      go_wp2
      go_loopw [57] (fun i wr => ∃ k : Nat, k ≤ S.loose.length ∧ i = .int .i64 k ∧ Dsk wr base M { S with fast := F, now := nowTo F S.now (S.loose.take k) } ∧ Turns base M w wr ∧ KeepB base w wr) (fun i _ => S.loose.length - (intOf i).toNat)
      case atStart => exact ⟨0, Nat.zero_le _, rfl, Z0.out, ZT.out, ZK.out⟩
      case round =>
        obtain ⟨k, hk, rfl, hD, hT, hK⟩ := hrel
        by_cases hlt : k < S.loose.length
        · obtain ⟨g, c', x, v, e1, e2, e3, e4, e5, e6, e7, e8, e0⟩ := hD.looseAt k hlt
          rw [hv1] at e1
          injection e1 with e1 q1 q2
          subst e1
          clear q1 q2
          obtain ⟨a1, a2, a3, rfl⟩ := e8.1.isSlice
          have y1 := hD.c1
          have y2 := hD.c2
          have ltp := (Array.getElem?_eq_some_iff.1 hD.hp).1
          obtain ⟨V, v1, v2⟩ := id hD.vf
          obtain ⟨U, u1, _⟩ := id hD.vn
          have ltf := v1.lt
          have ltn := u1.lt
          have s8 := v2 x.1 e7
          obtain ⟨b1, b2, b3, hb⟩ := s8.isSlice
          have z1 := v1.cell e7
          have z3 := u1.cell (i := x.1) (Nat.lt_of_lt_of_le e7 hD.hC.1)
          have hcn := hD.hC.2
          have z4 := u1.frozen x.1
          rw [hb] at z1 s8
          have e7' : x.1 < S.N := e7
          have hN := h0.out.hN
          obtain ⟨D3, k3⟩ := hD.setNow (k := x.1) s8
          have t3 : Turns base M wr (wr.setCell ⟨M.bn, x.1, none⟩ (.slice b1 b2 b3)) := ⟨rfl, rfl, rfl, by simp [World.setCell], fun j _ _ _ hj _ => Below.heap_setCell _ ⟨M.bn, x.1, none⟩ _ j hj⟩
          have D4 : Dsk (wr.setCell ⟨M.bn, x.1, none⟩ (.slice b1 b2 b3)) base M { S with fast := F, now := nowTo F S.now (S.loose.take (k + 1)) } := by
            have q : nowTo F S.now (S.loose.take (k + 1)) = upd (nowTo F S.now (S.loose.take k)) x.1 (F x.1) := by
              have e4' : S.loose[k]? = some x := e4
              rw [List.take_add_one, e4']
              unfold nowTo
              rw [List.foldl_append]
              rfl
            rw [q]
            exact D3
          have lW : Below _ _ (((wr.setCell ⟨M.bn, x.1, none⟩ (.slice b1 b2 b3)).alloc (.cells #[.int .i64 (x.1 : Int), .slice a1 a2 a3] 111)).drew) := ((Below.refl (wr.setCell ⟨M.bn, x.1, none⟩ (.slice b1 b2 b3)).heap.size (wr.setCell ⟨M.bn, x.1, none⟩ (.slice b1 b2 b3))).alloc (Nat.le_refl _) _).drew
          have DD := Lib.hid (D4.below lW)
          have TT := Lib.hid (hT.trans (t3.trans (Turns.of_below lW)))
          have KK := Lib.hid (hK.trans (k3.trans (keepB_below (base := base) lW)))
          clear D3 D4 t3 k3 hD hT hK lW v1 v2 u1 e8 s8
          go_wp2
          go_region
          go_wp2
          go_roundw
          case rel => exact ⟨k + 1, by omega, by go_num, DD.out, TT.out, KK.out⟩
          case measure => simp [intOf]; omega
        · obtain rfl : k = S.loose.length := by omega
          rw [List.take_length] at hD
          have q3 := hD.c3
          have q4 := hD.c4
          have q5 := hD.c5
          have r3 := hD.frozen 3
          have r4 := hD.frozen 4
          have r5 := hD.frozen 5
          have D1 := hD.noLoose
          have D2 := D1.store 4 (.int .i64 0) { S with fast := F, now := nowTo F S.now S.loose, loose := [], armed := 0 } rfl rfl rfl rfl rfl rfl (by simp)
          have D3 := D2.store 5 (.bool false) { S with fast := F, now := nowTo F S.now S.loose, loose := [], armed := 0, down := false } rfl rfl rfl rfl rfl rfl (by simp)
          have t2 : Turns base M w _ := hT.trans ((Turns.store _ 3 (.slice none 0 0)).trans ((Turns.store _ 4 (.int .i64 0)).trans (Turns.store _ 5 (.bool false))))
          have k2 := hK.trans ((keepB_store (i := 3) (v := .slice none 0 0) hD.hp (by decide)).trans ((keepB_store (i := 4) (v := .int .i64 0) D1.hp (by decide)).trans (keepB_store (i := 5) (v := .bool false) D2.hp (by decide))))
          have DD := Lib.hid D3
          have TT := Lib.hid t2
          have KK := Lib.hid k2
          clear D1 D2 D3 t2 k2 hD hT hK
          go_wp2
          go_end0
          refine ⟨rfl, ?_, TT.out, KK.out⟩
          have hc : crashS S fa L = { S with fast := F, now := nowTo F S.now S.loose, loose := [], armed := 0, down := false } := by unfold crashS; rw [← HF.out]
          rw [hc]
          exact DD.out
end Go.Proofs.Ytdbfmllcapikkaa
/- What a row of calls leaves of a disk and of what was there ahead of it. -/
namespace Go.Proofs.Ytdbfmllcapikkaa
open Go.RowKit

/-- A disk whose blocks all lie from base on; what lay below base is as it was in w0. -/
structure On [Spare] (w0 : World) (base : Nat) (M : DM) (S : DS) (w : World) : Prop where
  d : Dsk w base M S
  b : Below base w0 w
  z : base ≤ w0.heap.size

section
variable {w0 w w' : World} {base : Nat} {M : DM} {S S' : DS}
theorem On.le [Spare] (h : On w0 base M S w) : base ≤ w.heap.size := Nat.le_trans h.z h.b.size
theorem Turns.on [Spare] (h : On w0 base M S w) (t : Turns base M w w') : Below base w0 w' := by
  refine ⟨t.os.trans h.b.os, t.tape.trans h.b.tape, t.output.trans h.b.output, Nat.le_trans h.b.size t.size, fun k hk => ?_⟩
  obtain ⟨a1, a2, a3, a4⟩ := h.d.away k (.inl hk)
  exact (t.block k (Nat.lt_of_lt_of_le hk h.le) a1 a2 a3 a4).trans (h.b.block k hk)
theorem On.left [Spare] (h : On w0 base M S w) (l : Left S' base M w w') : ∃ v', On w0 base { M with vl := v' } S' w' := by
  obtain ⟨v', d, t, _, _⟩ := l
  exact ⟨v', d, t.on h, h.z⟩
theorem On.to [Spare] {v' : Value} (h : On w0 base M S w) (d : Dsk w' base { M with vl := v' } S') (t : Turns base M w w') : On w0 base { M with vl := v' } S' w' := ⟨d, t.on h, h.z⟩
theorem On.below [Spare] (h : On w0 base M S w) (l : Below w.heap.size w w') : On w0 base M S w' := ⟨h.d.below l, h.b.trans (l.mono h.le), h.z⟩
theorem On.drew [Spare] (h : On w0 base M S w) : On w0 base M S w.drew := h.below (Below.refl _ _).drew
end

theorem Ints.below {w w' : World} {A : Option Addr} {n B : Nat} {fa : Nat → Int} (h : Ints w A n fa) (hb : Below B w w') (hB : w.heap.size ≤ B) : Ints w' A n fa :=
  h.keep fun b o e hn => hb.block b (by have := h.blk b o e hn; omega)
/-- A block of ints is none of the disk's own. -/
theorem Dsk.apartI [Spare] {w : World} {base b o n : Nat} {M : DM} {S : DS} {cs : Array Value} (h : Dsk w base M S) (hb : w.heap[b]? = some (.cells cs 3 (0, 0))) : ApartI (some ⟨b, o, none⟩) n M := by
  rintro _ b' o' e
  injection e with e
  injection e with e1 e2
  subst e1
  obtain ⟨V, ⟨c, cv, _⟩, _⟩ := h.vf
  obtain ⟨U, ⟨c', cu, _⟩, _⟩ := h.vn
  obtain ⟨vs, _, l2, _⟩ := h.lo
  refine ⟨type_ne hb h.hp (by decide), type_ne hb cv (by decide), type_ne hb cu (by decide), fun e => ?_⟩
  rcases l2.2 with ⟨hv, _⟩ | ⟨g, cap, cur, hv, _, hh, _⟩
  · rw [hv] at e; cases e
  · rw [hv] at e
    simp only [Value.ownBlock, Option.some.injEq] at e
    exact type_ne hh hb (by decide) e
/-- A block of bytes that is none of the disk's own lasts. (None of the disk's four blocks is one of bytes.) -/
theorem Dsk.apartB [Spare] {w : World} {base g : Nat} {M : DM} {S : DS} {cs : Array Value} (h : Dsk w base M S) (hb : w.heap[g]? = some (.cells cs 5 (0, 0))) : g ≠ M.p ∧ g ≠ M.bf ∧ g ≠ M.bn ∧ M.vl.ownBlock ≠ some g := by
  obtain ⟨V, ⟨c, cv, _⟩, _⟩ := h.vf
  obtain ⟨U, ⟨c', cu, _⟩, _⟩ := h.vn
  obtain ⟨vs, _, l2, _⟩ := h.lo
  refine ⟨type_ne hb h.hp (by decide), type_ne hb cv (by decide), type_ne hb cu (by decide), fun e => ?_⟩
  rcases l2.2 with ⟨hv, _⟩ | ⟨g, cap, cur, hv, _, hh, _⟩
  · rw [hv] at e; cases e
  · rw [hv] at e
    simp only [Value.ownBlock, Option.some.injEq] at e
    exact type_ne hh hb (by decide) e
theorem BRow.turns [Spare] {w w' : World} {base g n : Nat} {M : DM} {S : DS} {F : Nat → Nat} (h : BRow w g n F) (d : Dsk w base M S) (t : Turns base M w w') : BRow w' g n F := by
  obtain ⟨c, hc, _⟩ := id h.1
  obtain ⟨a1, a2, a3, a4⟩ := d.apartB hc
  exact h.of_block (t.block g h.lt a1 a2 a3 a4)
theorem BRow.left [Spare] {w w' : World} {base g n : Nat} {M : DM} {S S' : DS} {F : Nat → Nat} (h : BRow w g n F) (d : Dsk w base M S) (l : Left S' base M w w') : BRow w' g n F := by
  obtain ⟨_, _, t, _, _⟩ := l
  exact h.turns d t
theorem Ints.apart [Spare] {w0 w : World} {base L : Nat} {A : Option Addr} {fa : Nat → Int} {M : DM} {S : DS} (h : Ints w0 A L fa) (hz : w0.heap.size ≤ base) (d : Dsk w base M S) : ApartI A L M := fun hn b o e => d.away b (.inl (by have := h.blk b o e hn; omega))
theorem one_int (w : World) (z : Int) (h0 : -9223372036854775808 ≤ z) (h1 : z ≤ 9223372036854775807) : Ints (w.alloc (.cells #[.int .i64 z] 3)) (some ⟨w.heap.size, 0, none⟩) 1 (fun _ => z) := by
  refine ⟨by omega, fun _ _ => ⟨h0, h1⟩, fun _ => ⟨_, _, rfl, fun i hi => ?_⟩⟩
  obtain rfl : i = 0 := by omega
  simp
theorem crash_one [Spare] (z : Int) (w0 w : World) (base : Nat) (M : DM) (S : DS) (h : On w0 base M S w) (h0 : -9223372036854775808 ≤ z) (h1 : z ≤ 9223372036854775807) (c : Nat) :
    Calls Try.prog 33 #[.pointer (some ⟨M.p, 0, none⟩), .slice (some ⟨w.heap.size, 0, none⟩) 1 c] (w.alloc (.cells #[.int .i64 z] 3)) fun e w' => e = .returned (.tuple #[]) ∧ On w0 base { M with vl := .slice none 0 0 } (crashS S (fun _ => z) 1) w' ∧ ∀ g n F, BRow w g n F → BRow w' g n F := by
  have l1 : Below w.heap.size w (w.alloc (.cells #[.int .i64 z] 3)) := (Below.refl _ _).alloc (Nat.le_refl _) _
  have h2 := h.below l1
  refine (crash_any (some ⟨w.heap.size, 0, none⟩) 1 c (fun _ => z) _ base M S h2.d h2.le (one_int w z h0 h1) (h2.d.apartI (cs := #[.int .i64 z]) (heap_alloc_new w _))).mono ?_
  rintro e w' ⟨rfl, d, t, _⟩
  exact ⟨rfl, h2.to d t, fun g n F r => (r.below l1 r.lt).turns h2.d t⟩
end Go.Proofs.Ytdbfmllcapikkaa
/- The contract of awake: what the chapter's examples say. -/
namespace Go.Proofs.Ytdbfmllcapikkaa
open Go.RowKit

/-- append onto bytes of the call's own, as a step of a region that draws its order. -/
theorem step_append_bytes {P : Program} {ops : Array Oper} {o : Oper} {a : Act} {w : World} {K : Act → World → Prop} {Q : Exit → Act → World → Prop} {E : Prop} (hw : Region.wanted o (yielded ops a.tmps) = true) (s x : Operand) (t : TypeId)
    (ho : o.op = .call { callee := .builtin .append, args := #[s, x], argTypes := #[t, t] }) (ht : P.underlying t = some (.slice 5))
    (hinfo : (P.info? 5).map (fun i => (i.zero, i.size, i.bytes)) = some (some (.int .u8 0), 1, 1))
    (base : Nat) (A : Option Addr) (n c : Nat) (F : Nat → Nat) (hs : a.eval s = .slice A n c) (hown : OwnB w base A n c F)
    (ad : Addr) (m d : Nat) (G : Nat → Nat) (hx : a.eval x = .slice (some ad) m d) (hsrc : Bytes w (some ad) m G) (k : Nat) (hk : n + m = k) (hsmall : k ≤ 140737488355328) (hbase : base ≤ w.heap.size)
    (h : ∀ A' c' w', Hid (OwnB w' base A' k c' (catF F n G)) → Hid (w.grownBy w' (blkOf A)) → K (a.put o.dst (.slice A' k c')) w') :
    if Region.wanted o (yielded ops a.tmps) = true then Oper.wp P o a w K Q else E := by
  subst hk
  rw [if_pos hw]
  obtain ⟨i0, hi0, hz0, hz1, hz2⟩ := info_parts hinfo
  obtain ⟨v', w', hr, ho1, hg1, _, hb1⟩ := run_append_own_at (P := P) w base t o.type 5 i0 (.int .u8 0) 1 1 ht hi0 hz0 hz1 hz2 rfl (by omega) _ n _ hown.1 ad m d (cellsOfF G m) (by simp [cellsOfF]) (by
    intro j v hv
    obtain ⟨hj, rfl⟩ := cellsOfF_get hv
    obtain ⟨b, ob, e, hc⟩ := hsrc.2.2 (by omega)
    injection e with e
    subst e
    have := hc j hj
    unfold Addr.add
    split
    · rename_i h0; subst h0; simpa using this
    · simpa using this) (by
    intro v hv
    obtain ⟨k, _, rfl⟩ := List.mem_map.1 hv
    rfl) (by unfold maxLen; omega) (by omega) hbase
  unfold Oper.wp execOp
  simp only [ho, resolve, invoke, builtin, Sem.run_bind, Sem.run_pure, Result.andThen_ok, List.map_toArray, List.map_cons, List.map_nil, hs, hx, hr]
  rw [cells_cat] at ho1
  have hF : ∀ i, i < n + m → catF F n G i < 256 := fun i hi => by
    unfold catF
    split
    · exact hown.2.1 i (by omega)
    · exact hsrc.2.1 _ (by omega)
  have hg2 : w.grownBy w' (blkOf A) := by rcases A with _ | a0 <;> exact hg1
  have ho2 := ho1
  rcases ho1 with ⟨_, ⟨rfl, h0⟩ | ⟨g, cap, cur, rfl, _, _, hc1, hc2, _⟩⟩
  · have := h none 0 w' ⟨by rw [h0] at ho2 ⊢; exact ho2, hF, by omega, by omega, fun _ => rfl⟩ hg2
    rw [h0] at this
    exact this
  · exact h (some ⟨g, 0, none⟩) cap w' ⟨ho2, hF, hc1, by unfold maxLen at hc2; exact hc2, fun e => by cases e⟩ hg2

theorem BRow.ownB {w : World} {g n base : Nat} {F : Nat → Nat} (h : BRow w g n F) (hb : base ≤ g) (_hn : n ≤ 1000000) : OwnB w base (some ⟨g, 0, none⟩) n n F := by
  obtain ⟨⟨c, h1, h2, h3⟩, h4, h5⟩ := h
  refine ⟨⟨by simp [cellsOfF], .inr ⟨g, n, c, rfl, hb, h1, Nat.le_refl _, by unfold maxLen; omega, by omega, ?_⟩⟩, h4, Nat.le_refl _, h5, fun e => by cases e⟩
  rw [Nat.mul_one, List.take_of_length_le (by simp; omega)]
  apply List.ext_getElem?
  intro i
  rcases Nat.lt_or_ge i n with hi | hi
  · rw [Array.getElem?_toList, h3 i hi]
    unfold cellsOfF
    rw [List.getElem?_map, List.getElem?_range hi]
    rfl
  · rw [List.getElem?_eq_none (by simp; omega), List.getElem?_eq_none (by simp [cellsOfF]; omega)]

/-- The states that awake goes through. -/
def aw1 : DS := strikeS (keepS (newS 2 64) 0 (fun _ => 1))
def aw2 : DS := crashS aw1 (fun _ => 3) 1
def aw3 : DS := strikeS (keepS (armS aw2 1) 1 (fun _ => 2))
def aw4 : DS := crashS aw3 (fun _ => 64) 1
def aF (i : Nat) : Nat := catF (fun _ => 1) 3 (fun _ => 0) i
theorem aw2_now : ∀ i, i < 64 → aw2.now 0 i = aF i := by decide +kernel
theorem aw4_now : ∀ i, i < 64 → aw4.now 1 i = 2 := by decide +kernel

theorem keep_conv {w w' : World} {g : Nat} {F : Nat → Nat} (h : BRow w g 64 F) (l : Below w.heap.size w w') : (convert 42 9 (.slice (some ⟨g, 0, none⟩) 64 64)).run Try.prog w' = .ok (.string (strF F 64)) w' := by
  have b := (h.below l h.lt).bytes (o := 0) (m := 64) (by omega)
  exact conv_any 64 (b.congr fun i _ => by rw [Nat.zero_add])

end Go.Proofs.Ytdbfmllcapikkaa
/- An act as plain data; its bytes. -/
namespace Go.Proofs.Ytdbfmllcapikkaa
open Go.RowKit

structure ActD where
  kind : Int
  at_ : Int
  len : Int
  b : Nat
  fA : Option Addr
  fL : Nat
  fC : Nat
  fa : Nat → Int
def ActD.cells (x : ActD) : Array Value := #[.int .i64 x.kind, .int .i64 x.at_, .int .i64 x.len, .int .u8 (x.b : Int), .slice x.fA x.fL x.fC]
structure ActD.ok (w : World) (x : ActD) : Prop where
  k : -9223372036854775808 ≤ x.kind ∧ x.kind ≤ 9223372036854775807
  a : -9223372036854775808 ≤ x.at_ ∧ x.at_ ≤ 9223372036854775807
  l : -9223372036854775808 ≤ x.len ∧ x.len ≤ 9223372036854775807
  b : x.b < 256
  f : Ints w x.fA x.fL x.fa
  c : x.fA = none → x.fL = 0 ∧ x.fC = 0

def lenN (x : ActD) (size : Nat) : Nat := if x.len < 0 ∨ 5000 < x.len then size else x.len.toNat
def actF (b n i : Nat) : Nat := if 1 < n ∧ i = n - 1 then (b + 1) % 256 else b
theorem actF_lt {b : Nat} (h : b < 256) (n i : Nat) : actF b n i < 256 := by unfold actF; split <;> omega

end Go.Proofs.Ytdbfmllcapikkaa
/- The contract of did: an act is done. -/
namespace Go.Proofs.Ytdbfmllcapikkaa
open Go.RowKit
set_option linter.unusedVariables false

/-- What an act makes of a disk. -/
def putS (S : DS) (at_ : Int) (n : Nat) (F : Nat → Nat) : DS := if reachI S at_ ≠ 0 ∨ n ≠ S.size then S else strikeS (keepS S at_.toNat F)
def putI (S : DS) (at_ : Int) (n : Nat) (F : Nat → Nat) : Int := if reachI S at_ ≠ 0 then reachI S at_ else if n ≠ S.size then 3 else strikeI (keepS S at_.toNat F)
def flushD (S : DS) : DS := if S.down = true then S else if strikeI S = 4 then strikeS S else flushS S
def flushI (S : DS) : Int := if S.down = true then 4 else strikeI S
def kind7 (x : ActD) : Nat := (x.kind % 7).toNat
def didS (S : DS) (x : ActD) : DS :=
  if kind7 x = 3 then flushD S else if kind7 x = 4 then S else if kind7 x = 5 then armS S x.at_ else if kind7 x = 6 then crashS S x.fa x.fL else putS S x.at_ (lenN x S.size) (actF x.b (lenN x S.size))

theorem reach_in {S : DS} {at_ : Int} (h : reachI S at_ = 0) : S.down = false ∧ 0 ≤ at_ ∧ at_ < S.N := by
  unfold reachI at h
  split at h
  · omega
  · rename_i hd
    split at h
    · omega
    · exact ⟨by simpa using hd, by omega, by omega⟩
theorem strikeI_or (S : DS) : strikeI S = 4 ∨ strikeI S = 0 := by unfold strikeI; split <;> simp

section
variable {w w' : World} {base : Nat} {M : DM} {S S' : DS}
theorem Left.of_below [Spare] (h : Dsk w base M S) (l : Below w.heap.size w w') : Left S base M w w' := ⟨M.vl, h.below l, Turns.of_below l, keepB_below l, .inl rfl⟩
theorem Left.behind [Spare] {W : World} (l : Below w.heap.size w W) (h : Left S' base M W w') : Left S' base M w w' := by
  obtain ⟨v', d, t, k, o⟩ := h
  refine ⟨v', d, (Turns.of_below l).trans t, (keepB_below l).trans k, ?_⟩
  rcases o with o | ⟨g, o, hg⟩ | o
  · exact .inl o
  · exact .inr (.inl ⟨g, o, Nat.le_trans l.size hg⟩)
  · exact .inr (.inr o)
theorem Left.same [Spare] (d : Dsk w' base M S') (t : Turns base M w w') (k : KeepB base w w') : Left S' base M w w' := ⟨M.vl, d, t, k, .inl rfl⟩
theorem Left.none_ [Spare] (d : Dsk w' base { M with vl := .slice none 0 0 } S') (t : Turns base M w w') (k : KeepB base w w') : Left S' base M w w' := ⟨.slice none 0 0, d, t, k, .inr (.inr rfl)⟩
end

theorem flush_any [Spare] (w : World) (base : Nat) (M : DM) (S : DS) (h : Dsk w base M S) :
    Calls Try.prog 52 #[.pointer (some ⟨M.p, 0, none⟩)] w fun e w' => e = .returned (.int .i64 (flushI S)) ∧ Left (flushD S) base M w w' := by
  by_cases hd : S.down = true
  · have e1 : flushI S = 4 := if_pos hd
    have e2 : flushD S = S := if_pos hd
    rw [e1, e2]
    refine (flush_down w base M S h hd).mono ?_
    rintro e w' ⟨rfl, rfl⟩
    exact ⟨rfl, Left.refl h⟩
  · have hd2 : S.down = false := by simpa using hd
    have e1 : flushI S = strikeI S := if_neg hd
    have e2 : flushD S = if strikeI S = 4 then strikeS S else flushS S := if_neg hd
    rw [e1, e2]
    rcases strikeI_or S with hs | hs
    · rw [hs]
      refine (flush_no w base M S h hd2 hs).mono ?_
      rintro e w' ⟨rfl, d, t, k⟩
      exact ⟨rfl, Left.same d t k⟩
    · rw [hs]
      refine (flush_ok w base M S h hd2 hs).mono ?_
      rintro e w' ⟨rfl, d, t, k⟩
      exact ⟨rfl, Left.none_ d t k⟩
def ReadLook (w : World) (e : Ending) (w' : World) : Prop := (∃ v, e = .returned v) ∧ Below w.heap.size w w'
theorem read_look [Spare] (at_ : Int) (w : World) (base : Nat) (M : DM) (S : DS) (h : Dsk w base M S) :
    Calls Try.prog 18 #[.pointer (some ⟨M.p, 0, none⟩), .int .i64 at_] w (ReadLook w) := by
  by_cases h0 : reachI S at_ = 0
  · obtain ⟨h1, h2, h3⟩ := reach_in h0
    obtain ⟨k, rfl⟩ := Int.eq_ofNat_of_zero_le h2
    refine (readDisk_ok k w base M S h (by omega) h1).mono ?_
    rintro e w' ⟨rfl, _, l⟩
    exact ⟨⟨_, rfl⟩, l⟩
  · refine (readDisk_no at_ w base M S h h0).mono ?_
    rintro e w' ⟨rfl, rfl⟩
    exact ⟨⟨_, rfl⟩, Below.refl _ _⟩
theorem write_any [Spare] (at_ : Int) (b o n c : Nat) (F : Nat → Nat) (w : World) (base : Nat) (M : DM) (S : DS) (h : Dsk w base M S) (hbase : base ≤ w.heap.size) (hL : S.loose.length < 1000000) (hb : Bytes w (some ⟨b, o, none⟩) n F) :
    Calls Try.prog 26 #[.pointer (some ⟨M.p, 0, none⟩), .int .i64 at_, .slice (some ⟨b, o, none⟩) n c] w fun e w' => e = .returned (.int .i64 (putI S at_ n F)) ∧ Left (putS S at_ n F) base M w w' := by
  by_cases h0 : reachI S at_ = 0
  · obtain ⟨h1, h2, h3⟩ := reach_in h0
    by_cases hn : n = S.size
    · subst hn
      have e1 : putI S at_ S.size F = strikeI (keepS S at_.toNat F) := by unfold putI; rw [if_neg (fun q => q h0), if_neg (fun q => q rfl)]
      have e2 : putS S at_ S.size F = strikeS (keepS S at_.toNat F) := by unfold putS; rw [if_neg (fun q => q.elim (fun z => z h0) fun z => z rfl)]
      rw [e1, e2]
      obtain ⟨k, rfl⟩ := Int.eq_ofNat_of_zero_le h2
      exact write_ok k b o c F w base M S h hbase h1 (by omega) hL hb
    · have e1 : putI S at_ n F = 3 := by unfold putI; rw [if_neg (fun q => q h0), if_pos hn]
      have e2 : putS S at_ n F = S := by unfold putS; rw [if_pos (.inr hn)]
      rw [e1, e2]
      refine (write_size at_ _ n c w base M S h h0 hn hb.1).mono ?_
      rintro e w' ⟨rfl, rfl⟩
      exact ⟨rfl, Left.refl h⟩
  · have e1 : putI S at_ n F = reachI S at_ := by unfold putI; rw [if_pos h0]
    have e2 : putS S at_ n F = S := by unfold putS; rw [if_pos (.inl h0)]
    rw [e1, e2]
    refine (write_no at_ _ w base M S h h0).mono ?_
    rintro e w' ⟨rfl, rfl⟩
    exact ⟨rfl, Left.refl h⟩

theorem kind_go (k : Int) (h : -9223372036854775808 ≤ k ∧ k ≤ 9223372036854775807) : (wrap64 (k.tmod 7 + 7)).tmod 7 = (((k % 7).toNat : Nat) : Int) := by
  have e := tmod_as k 7 (by omega)
  have h2 : 0 ≤ k % (7 : Int) := Int.emod_nonneg k (by omega)
  have h3 : k % (7 : Int) < 7 := Int.emod_lt_of_pos k (by omega)
  have e0 : ((7 : Nat) : Int) = 7 := rfl
  rw [e0] at e
  obtain ⟨m, hm⟩ : ∃ m, m = k.tmod 7 := ⟨_, rfl⟩
  obtain ⟨r, hr⟩ : ∃ r, r = k % 7 := ⟨_, rfl⟩
  rw [← hm, ← hr] at e
  rw [← hr] at h2 h3
  rw [← hm, ← hr]
  clear hm hr
  have e' : (m < 0 ∧ r = m + 7) ∨ (0 ≤ m ∧ r = m) := by
    by_cases q : m < 0
    · rw [if_pos q] at e; exact .inl ⟨q, e⟩
    · rw [if_neg q] at e; exact .inr ⟨by omega, e⟩
  clear e
  have h5 : wrap64 (m + 7) = m + 7 := by unfold wrap64; omega
  rw [h5, Int.tmod_eq_emod_of_nonneg (by omega)]
  omega

def BoxIs (W : World) (b : Nat) (x : ActD) : Prop := (W.cell? ⟨b, 0, none⟩ = x.cells[0]? ∧ W.cell? ⟨b, 1, none⟩ = x.cells[1]?) ∧ W.cell? ⟨b, 2, none⟩ = x.cells[2]? ∧ W.cell? ⟨b, 3, none⟩ = x.cells[3]? ∧ W.cell? ⟨b, 4, none⟩ = x.cells[4]?
theorem Left.turns [Spare] {S' : DS} {base : Nat} {M : DM} {w w' : World} (h : Left S' base M w w') : Turns base M w w' := by
  obtain ⟨_, _, t, _, _⟩ := h
  exact t
end Go.Proofs.Ytdbfmllcapikkaa
/- log.loadOf: the load of the slot that holds a change. -/
namespace Go.Proofs.Ytdbfmllcapikkaa
open Go.RowKit
set_option linter.unusedVariables false

theorem run_make_cap (m : Nat) (hm : m ≤ 100000) (w : World) : (Instr.makeSlice 42 (.int .i64 9) (.int .i64 (9 + (m : Int)))).run Try.prog w = .ok (.slice (some ⟨w.heap.size, 0, none⟩) 9 (9 + m)) (w.alloc (.cells (madeCells #[.int .u8 0] (9 + m)) 5)) := by
  obtain ⟨i, hi, hzz⟩ := Option.map_eq_some_iff.1 u8info
  simp only [Prod.mk.injEq] at hzz
  obtain ⟨hz, hs, hb⟩ := hzz
  have hr := run_make (P := Try.prog) w 42 5 i (.int .u8 0) Try.underlying42 hi hz .i64 .i64 9 (9 + (m : Int)) (by omega) (by omega) (by rw [hb]; omega) (by omega)
  have e : (9 + (m : Int)).toNat = 9 + m := by omega
  simp only [e, hs, Nat.mul_one] at hr
  exact hr
/-- The front of a row of the call's own, as a slice. -/
theorem row_own {w : World} {g N n base : Nat} {F : Nat → Nat} (h : BRow w g N F) (hn : n ≤ N) (hb : base ≤ g) : OwnB w base (some ⟨g, 0, none⟩) n N F := by
  obtain ⟨⟨cur, h1, h2, h3⟩, h4, h5⟩ := h
  refine ⟨⟨by simp [cellsOfF], .inr ⟨g, N, cur, rfl, hb, h1, hn, by unfold maxLen; omega, by omega, ?_⟩⟩, fun i hi => h4 i (by omega), hn, h5, fun e => by cases e⟩
  apply List.ext_getElem?
  intro i
  unfold cellsOfF
  rw [Nat.mul_one, List.getElem?_take, List.getElem?_map]
  by_cases hi : i < n
  · rw [if_pos hi, List.getElem?_range hi, Array.getElem?_toList, h3 i (by omega)]; rfl
  · rw [if_neg hi, List.getElem?_eq_none (by simpa using hi)]; rfl
theorem load_eq (page m : Nat) (last : Bool) (G : Nat → Nat) (i : Nat) (hi : i < 9 + m) : catF (if last = true then fun j => if j = 8 then 1 else putF zeroF 0 8 page j else putF zeroF 0 8 page) 9 G i = loadF page last G i := by
  have e : i < 8 → putF zeroF 0 8 page i = leF page i := fun h => by unfold putF leF; rw [if_pos (by omega)]; simp
  have e8 : putF zeroF 0 8 page 8 = 0 := by unfold putF zeroF; rw [if_neg (by omega)]
  cases last
  · show (if i < 9 then putF zeroF 0 8 page i else G (i - 9)) = if i < 8 then leF page i else if i = 8 then 0 else G (i - 9)
    by_cases h8 : i < 8
    · rw [if_pos (by omega), if_pos h8]; exact e h8
    · by_cases h9 : i = 8
      · subst h9; rw [if_pos (by omega), if_neg (by omega), if_pos rfl]; exact e8
      · rw [if_neg (by omega), if_neg h8, if_neg h9]
  · show (if i < 9 then (if i = 8 then 1 else putF zeroF 0 8 page i) else G (i - 9)) = if i < 8 then leF page i else if i = 8 then 1 else G (i - 9)
    by_cases h8 : i < 8
    · rw [if_pos (by omega), if_pos h8, if_neg (by omega)]; exact e h8
    · by_cases h9 : i = 8
      · subst h9; simp
      · rw [if_neg (by omega), if_neg h8, if_neg h9]
set_option maxHeartbeats 2000000 in
set_option maxRecDepth 100000 in
theorem loadOf_any (page : Nat) (last : Bool) (A : Option Addr) (m c : Nat) (G : Nat → Nat) (w : World) (hp : page ≤ 9223372036854775807) (hb : Bytes w A m G) (hmc : m ≤ c) (hc : c ≤ 9223372036854775807) (hnil : A = none → c = 0) (hm : m ≤ 100000) :
    Calls Try.prog 60 #[.agg #[.int .i64 page, .slice A m c], .bool last] w fun e w' => ∃ A' c', e = .returned (.slice A' (9 + m) c') ∧ OwnB w' w.heap.size A' (9 + m) c' (loadF page last G) ∧ Below w.heap.size w w' := by
  have MK := Lib.hid (run_make_cap m hm)
  obtain ⟨W1, hW1⟩ : ∃ W1, W1 = w.alloc (.cells #[.int .i64 page, .slice A m c] 44) := ⟨_, rfl⟩
  have hz1 : W1.heap.size = w.heap.size + 1 := by rw [hW1]; simp
  have L1 := Lib.hid (show Below w.heap.size w W1 by rw [hW1]; exact (Below.refl _ _).alloc (Nat.le_refl _) _)
  have C1 := Lib.hid (show W1.cell? ⟨w.heap.size, 0, none⟩ = some (.int .i64 page) ∧ W1.cell? ⟨w.heap.size, 1, none⟩ = some (.slice A m c) by rw [hW1]; simp)
  obtain ⟨W2, hW2⟩ : ∃ W2, W2 = W1.alloc (.cells (madeCells #[.int .u8 0] (9 + m)) 5) := ⟨_, rfl⟩
  have R2 := Lib.hid (show BRow W2 W1.heap.size (9 + m) zeroF by rw [hW2]; exact BRow.made W1 (9 + m) (by omega))
  have L2 := Lib.hid (show Below W1.heap.size W1 W2 by rw [hW2]; exact (Below.refl _ _).alloc (Nat.le_refl _) _)
  have K2 := Lib.hid (show ∀ W : World, W2.grownBy W (some W1.heap.size) → W.cell? ⟨w.heap.size, 0, none⟩ = some (.int .i64 page) ∧ W.cell? ⟨w.heap.size, 1, none⟩ = some (.slice A m c) ∧ Below w.heap.size w W ∧ Bytes W A m G from fun W hg => by
    have hz2 : W2.heap.size = W1.heap.size + 1 := by rw [hW2]; simp
    have lW : Below W1.heap.size W1 W := L2.out.grown hg (by omega) (by rintro k ⟨⟩; exact Nat.le_refl _)
    have lw := L1.out.trans (lW.mono L1.out.size)
    exact ⟨(lW.cell (p := ⟨w.heap.size, 0, none⟩) (by rw [hz1]; exact Nat.lt_succ_self _)).trans C1.out.1, (lW.cell (p := ⟨w.heap.size, 1, none⟩) (by rw [hz1]; exact Nat.lt_succ_self _)).trans C1.out.2, lw, hb.below lw (Nat.le_refl _)⟩)
  have HW1 := Lib.hid hW1
  have HW2 := Lib.hid hW2
  have HZ := Lib.hid hz1
  have mk := MK.out W1
  obtain ⟨c0, c1⟩ := C1.out
  have hcm : (9 : Int) + m ≤ 9223372036854775807 := by omega
  clear hW1 hW2 hz1 hb
  go_enter Try.func60, Try.ntmps60
  go_upto_region 1 with (fail)
  rw [← HW1.out]
  obtain ⟨e0, e1, _, _⟩ := K2.out W2 (World.grownBy.refl W2 _)
  rw [HW2.out] at e0 e1
  go_wp2_with fail
  rw [← HW2.out]
  refine (put_any W1.heap.size 0 9 (9 + m) (9 + m) page zeroF W2 R2.out (by omega) (by omega) (by omega) (by omega) hp).mono ?_
  rintro e W3 ⟨rfl, b3, g3⟩
  have B3 := Lib.hid b3
  have G3 := Lib.hid g3
  clear mk c0 c1 e0 e1 b3 g3
  cases last
  · obtain ⟨d0, d1, l3, s3⟩ := K2.out _ G3.out
    have OW := Lib.hid (row_own (n := 9) (base := w.heap.size) B3.out (by omega) (by have := HZ.out; omega))
    have S3 := Lib.hid s3
    have Z3 := Lib.hid l3
    clear l3 s3
    go_wp2_with (at_builtin; refine wpList_append_bytes _ rfl (.tmp 18) (.tmp 20) 42 rfl Try.underlying42 u8info w.heap.size _ 9 (9 + m) _ rfl OW.out A m c G rfl S3.out hnil (by omega) Z3.out.size ?_)
    intro A' c' w' o1 g1 _
    have O1 := Lib.hid (o1.congr (load_eq page m false G))
    have L4 := Lib.hid (Z3.out.grown g1 Z3.out.size (by intro k hk; exact (OW.out.base_le hk).1))
    clear o1 g1 d0 d1
    go_wp2_with fail
    go_ret
    exact ⟨_, _, rfl, O1.out, L4.out⟩
  · have hc8 := B3.out.cell (i := 8) (by omega)
    have hf8 := B3.out.frozen 8
    have B4 := Lib.hid (B3.out.set_ 8 1 (by omega))
    have G4 := Lib.hid (G3.out.trans (grown_store W3 ⟨W1.heap.size, 8, none⟩ (.int .u8 1)))
    obtain ⟨d0, d1, l3, s3⟩ := K2.out _ G4.out
    have OW := Lib.hid (row_own (n := 9) (base := w.heap.size) B4.out (by omega) (by have := HZ.out; omega))
    have S3 := Lib.hid s3
    have Z3 := Lib.hid l3
    have h98 : (8 : Nat) < 9 := by omega
    clear l3 s3
    go_wp2_with (at_builtin; refine wpList_append_bytes _ rfl (.tmp 18) (.tmp 20) 42 rfl Try.underlying42 u8info w.heap.size _ 9 (9 + m) _ rfl OW.out A m c G rfl S3.out hnil (by omega) Z3.out.size ?_)
    intro A' c' w' o1 g1 _
    have O1 := Lib.hid (o1.congr (load_eq page m true G))
    have L4 := Lib.hid (Z3.out.grown g1 Z3.out.size (by intro k hk; exact (OW.out.base_le hk).1))
    clear o1 g1 d0 d1 hc8 hf8
    go_wp2_with fail
    go_ret
    exact ⟨_, _, rfl, O1.out, L4.out⟩
end Go.Proofs.Ytdbfmllcapikkaa
/- log's write: groups into slots. -/
namespace Go.Proofs.Ytdbfmllcapikkaa
open Go.RowKit
set_option linter.unusedVariables false

/-- A block that is none of the disk's own. -/
def AwB (M : DM) (k : Nat) : Prop := k ≠ M.p ∧ k ≠ M.bf ∧ k ≠ M.bn ∧ M.vl.ownBlock ≠ some k
structure ChOk (w : World) (M : DM) (x : ChD) : Prop where
  by_ : Bytes w x.A x.m x.F
  mc : x.m ≤ x.c
  cc : x.c ≤ 9223372036854775807
  nil_ : x.A = none → x.c = 0
  aw : ∀ b o, x.A = some ⟨b, o, none⟩ → AwB M b
theorem ChOk.turns {w w' : World} {M : DM} {x : ChD} {base : Nat} (h : ChOk w M x) (t : Turns base M w w') : Bytes w' x.A x.m x.F :=
  h.by_.keep fun b o e hn => by
    obtain ⟨a1, a2, a3, a4⟩ := h.aw b o e
    exact t.block b (h.by_.blk b o e hn) a1 a2 a3 a4
/-- A group in memory, apart from the disk. -/
structure Grp (w : World) (M : DM) (bb o n : Nat) (X : Nat → ChD) : Prop where
  lt : n ≤ 1048576
  ok : ∀ i, i < n → ChOk w M (X i)
  aw : AwB M bb
  at_ : ∀ i, i < n → ChAt w bb (o + i * 2) (X i)
theorem Turns.cell_at {w w' : World} {M : DM} {base k i : Nat} {v : Value} (t : Turns base M w w') (a : AwB M k) (h : w.cell? ⟨k, i, none⟩ = some v) : w'.cell? ⟨k, i, none⟩ = some v :=
  (World.cell?_of_block (w := w) (a := ⟨k, i, none⟩) (t.block k (cell_lt' h) a.1 a.2.1 a.2.2.1 a.2.2.2)).trans h
theorem Grp.turns {w w' : World} {M : DM} {base bb o n : Nat} {X : Nat → ChD} (h : Grp w M bb o n X) (t : Turns base M w w') (i : Nat) (hi : i < n) : ChAt w' bb (o + i * 2) (X i) :=
  ⟨t.cell_at h.aw (h.at_ i hi).c0, t.cell_at h.aw (h.at_ i hi).c1⟩
/-- The sector of a group's change. -/
def logSec (sz ep nx n : Nat) (X : Nat → ChD) (k : Nat) : Nat → Nat := secF (sz - 20) (mkN ep (nx + k)) (9 + (X k).m) (loadF (X k).page.toNat (decide (k + 1 = n)) (X k).F)
/-- What is written, k sectors far; what is told of the k-th. -/
def wrS (at0 sz : Nat) (sec : Nat → Nat → Nat) (S : DS) : Nat → DS
  | 0 => S
  | k + 1 => putS (wrS at0 sz sec S k) ((at0 + k : Nat) : Int) sz (sec k)
def wrI (at0 sz : Nat) (sec : Nat → Nat → Nat) (S : DS) (k : Nat) : Int := putI (wrS at0 sz sec S k) ((at0 + k : Nat) : Int) sz (sec k)
theorem putS_len (S : DS) (a : Int) (n : Nat) (F : Nat → Nat) : (putS S a n F).loose.length ≤ S.loose.length + 1 := by
  unfold putS
  split
  · omega
  · rw [strikeS_loose]; simp [keepS]
theorem putS_sz (S : DS) (a : Int) (n : Nat) (F : Nat → Nat) : (putS S a n F).size = S.size := by
  unfold putS
  split
  · rfl
  · rw [strikeS_size]; rfl
theorem wrS_len (at0 sz : Nat) (sec : Nat → Nat → Nat) (S : DS) : ∀ k, (wrS at0 sz sec S k).loose.length ≤ S.loose.length + k
  | 0 => Nat.le_refl _
  | k + 1 => by
    have := wrS_len at0 sz sec S k
    have := putS_len (wrS at0 sz sec S k) ((at0 + k : Nat) : Int) sz (sec k)
    show (putS _ _ _ _).loose.length ≤ _
    omega
theorem wrS_sz (at0 sz : Nat) (sec : Nat → Nat → Nat) (S : DS) : ∀ k, (wrS at0 sz sec S k).size = S.size
  | 0 => rfl
  | k + 1 => (putS_sz _ _ _ _).trans (wrS_sz at0 sz sec S k)
/-- What write tells and leaves. -/
def WrP [Spare] (at0 sz n : Nat) (sec : Nat → Nat → Nat) (base : Nat) (M : DM) (S : DS) (w : World) (e : Ending) (w' : World) : Prop :=
  (∃ k, k < n ∧ (∀ j, j < k → wrI at0 sz sec S j = 0) ∧ wrI at0 sz sec S k ≠ 0 ∧ e = .returned (.int .i64 (wrI at0 sz sec S k)) ∧ Left (wrS at0 sz sec S (k + 1)) base M w w') ∨
    (∀ j, j < n → wrI at0 sz sec S j = 0) ∧ e = .returned (.int .i64 (flushI (wrS at0 sz sec S n))) ∧ Left (flushD (wrS at0 sz sec S n)) base M w w'
set_option maxHeartbeats 4000000 in
set_option maxRecDepth 100000 in
theorem lwrite_any [Spare] (b f cn ep nx : Nat) (dead : Bool) (bb o n c : Nat) (X : Nat → ChD) (w : World) (base : Nat) (M : DM) (S : DS) (h : Dsk w base M S) (hbase : base ≤ w.heap.size) (hL : S.loose.length + n < 1000000)
    (hl : w.heap[b]? = some (.cells (lgCells M.p f cn ep nx dead) 85 (0, 0))) (hab : AwB M b) (hf : f ≤ 1048576) (hnx : nx + n ≤ 1048576) (he1 : 1 ≤ ep) (he2 : ep ≤ 1099511627776) (hG : Grp w M bb o n X) (hm : ∀ i, i < n → (X i).m + 45 = S.size) (hp : ∀ i, i < n → pageB (X i)) :
    Calls Try.prog 40 #[.pointer (some ⟨b, 0, none⟩), .slice (some ⟨bb, o, none⟩) n c] w (WrP (f + nx) S.size n (logSec S.size ep nx n X) base M S w) := by
  have hS := h.hS
  obtain ⟨sec, hsec⟩ : ∃ sec, sec = logSec S.size ep nx n X := ⟨_, rfl⟩
  rw [← hsec]
  have HSec := Lib.hid hsec
  have q0 : w.cell? ⟨b, 0, none⟩ = some (.pointer (some ⟨M.p, 0, none⟩)) := by simp [World.cell?, hl, lgCells]
  have q1 : w.cell? ⟨b, 1, none⟩ = some (.int .i64 (f : Int)) := by simp [World.cell?, hl, lgCells]
  have q3 : w.cell? ⟨b, 3, none⟩ = some (.int .i64 (ep : Int)) := by simp [World.cell?, hl, lgCells]
  have q4 : w.cell? ⟨b, 4, none⟩ = some (.int .i64 (nx : Int)) := by simp [World.cell?, hl, lgCells]
  have KC := Lib.hid (show ∀ W, Turns base M w W → W.cell? ⟨b, 0, none⟩ = some (.pointer (some ⟨M.p, 0, none⟩)) ∧ W.cell? ⟨b, 1, none⟩ = some (.int .i64 (f : Int)) ∧ W.cell? ⟨b, 3, none⟩ = some (.int .i64 (ep : Int)) ∧ W.cell? ⟨b, 4, none⟩ = some (.int .i64 (nx : Int)) from fun W t => ⟨t.cell_at hab q0, t.cell_at hab q1, t.cell_at hab q3, t.cell_at hab q4⟩)
  have HH := Lib.hid h
  have HG := Lib.hid hG
  have HM := Lib.hid hm
  have HP := Lib.hid hp
  have hn := hG.lt
  clear h hl q0 q1 q3 q4 hG hm hp hsec
  go_enter Try.func40, Try.ntmps40
  go_wp2
  go_loopw [14] (fun i wr => ∃ k : Nat, i = .int .i64 k ∧ k ≤ n ∧ (∀ j, j < k → wrI (f + nx) S.size sec S j = 0) ∧ Left (wrS (f + nx) S.size sec S k) base M w wr) (fun i _ => n - (intOf i).toNat)
  case atStart => exact ⟨0, rfl, by omega, fun j hj => by omega, Left.refl HH.out⟩
  case round =>
    obtain ⟨k, rfl, hk, ha, hB⟩ := hrel
    obtain ⟨wo, hwo⟩ : ∃ wo, wo = wr := ⟨_, rfl⟩
    subst hwo
    obtain ⟨v', d, t, kb, ow⟩ := hB
    have D := Lib.hid d
    have T := Lib.hid t
    have KB := Lib.hid kb
    have OW := Lib.hid ow
    have HA := Lib.hid ha
    clear d t kb ow ha
    by_cases hlt : k < n
    · obtain ⟨d0, d1⟩ := HG.out.turns T.out k hlt
      have hOK := HG.out.ok k hlt
      have hBy := hOK.turns T.out
      have hM := HM.out k hlt
      have hPg := HP.out k hlt
      obtain ⟨x, hx⟩ : ∃ x, x = X k := ⟨_, rfl⟩
      rw [← hx] at d0 d1 hOK hBy hM hPg
      have hkI : (k : Int) < n := by omega
      have HXK := Lib.hid hx
      obtain ⟨pg, hpg⟩ : ∃ pg : Nat, pg = x.page.toNat := ⟨_, rfl⟩
      have hpe : x.page = (pg : Int) := by have := hPg.1; omega
      have hpl : pg ≤ 2147483647 := by have := hPg.2; omega
      rw [hpe] at d0
      obtain ⟨xp, xA, xm, xc, xF⟩ := x
      dsimp only at d0 d1 hM hBy hpe hpg
      subst hpe
      have TA := Lib.hid (show Turns base M w (wo.alloc (.cells #[.int .i64 (pg : Int), .slice xA xm xc] 44)) from T.out.trans (Turns.of_below ((Below.refl _ _).alloc (Nat.le_refl _) _)))
      obtain ⟨g0, g1, g3, g4⟩ := KC.out _ TA.out
      clear hx
      have HO := Lib.hid hOK
      have HY := Lib.hid hBy
      have HN := Lib.hid hpg
      clear hOK hBy hPg hpg
      go_wp2_with fail
      have hlast : ((k : Int) == (n : Int) - 1) = decide (k + 1 = n) := by
        rcases Nat.lt_or_ge (k + 1) n with q | q
        · rw [decide_eq_false (by omega)]; simp; omega
        · rw [decide_eq_true (by omega)]; simp; omega
      rw [hlast]
      refine (loadOf_any pg _ xA xm xc xF _ (by omega) (HY.out.below ((Below.refl _ _).alloc (Nat.le_refl _) _) (Nat.le_refl _)) HO.out.mc HO.out.cc HO.out.nil_ (by omega)).mono ?_
      rintro e w3 ⟨A', c', rfl, o3, l3⟩
      have L3 := Lib.hid (((Below.refl wo.heap.size wo).alloc (Nat.le_refl _) (.cells #[.int .i64 (pg : Int), .slice xA xm xc] 44)).trans (l3.mono (by simp)))
      have O3 := Lib.hid o3.bytes
      have KS := Lib.hid (show ∀ W, Below w3.heap.size w3 W → Calls Try.prog 50 #[.pointer (some ⟨M.p, 0, none⟩)] W fun e w' => e = .returned (.int .i64 (S.size : Int)) ∧ W = w' from fun W l => by
        have q := size_any W base { M with vl := v' } _ (D.out.below (L3.out.trans (l.mono L3.out.size)))
        rw [wrS_sz] at q
        exact q)
      have T3 := Lib.hid (T.out.trans (Turns.of_below (base := base) (M := M) L3.out))
      clear l3 o3 g0 g1 g3 g4 hlast
      obtain ⟨g0, g1, g3, g4⟩ := KC.out _ T3.out
      have hm45 : xm + 45 = S.size := hM
      have hmk : ((nx : Int) + (k : Int)) = ((nx + k : Nat) : Int) := by omega
      have KM := Lib.hid (show ∀ W, Calls Try.prog 62 #[.int .i64 (ep : Int), .int .i64 ((nx : Int) + (k : Int))] W fun e w' => e = .returned (.int .i64 ((mkN ep (nx + k) : Nat) : Int)) ∧ W = w' from fun W => by rw [hmk]; exact markOf_any ep (nx + k) W he2 (by omega))
      have KB6 := Lib.hid (show ∀ W, Below w3.heap.size w3 W → Calls Try.prog 61 #[.int .i64 (S.size : Int), .int .i64 ((mkN ep (nx + k) : Nat) : Int), .slice A' (9 + xm) c'] W fun e w' => e = .returned (.tuple #[.slice (some ⟨W.heap.size, 0, none⟩) S.size S.size, .int .i64 0]) ∧ BRow w' W.heap.size S.size (secF (S.size - 20) (mkN ep (nx + k)) (9 + xm) (loadF pg (decide (k + 1 = n)) xF)) ∧ Below W.heap.size W w' from fun W l => build_ok S.size (S.size - 20) (mkN ep (nx + k)) (9 + xm) c' A' _ W (by omega) (by omega) (by omega) (by omega) (by unfold mkN; omega) (by unfold mkN; omega) (by omega) (O3.out.below l (Nat.le_refl _)))
      have hb3 : b < w3.heap.size := cell_lt' g0
      clear hmk
      go_wp2_with fail
      go_region_held_law (fun W => W.cell? ⟨b, 0, none⟩ = some (.pointer (some ⟨M.p, 0, none⟩)) ∧ W.cell? ⟨b, 3, none⟩ = some (.int .i64 (ep : Int)))
        (first | exact ⟨p0, p3⟩ | exact ⟨g0, g3⟩ | go_keep)
        (first
          | (go_at_call 50; refine (KS.out _ (by first | exact Below.refl _ _ | exact (Below.refl _ _).drew)).mono ?_; rintro e W5 ⟨rfl, rfl⟩)
          | (go_at_call 62; refine (KM.out _).mono ?_; rintro e W5 ⟨rfl, rfl⟩)
          | (go_at_call 61; refine (KB6.out _ (by first | exact Below.refl _ _ | exact (Below.refl _ _).drew)).mono ?_; rintro e W6 ⟨rfl, r6, l6⟩; have p0 := (l6.cell (p := ⟨b, 0, none⟩) hb3).trans g0; have p3 := (l6.cell (p := ⟨b, 3, none⟩) hb3).trans g3))
      have L6 := Lib.hid (L3.out.trans (Below.mono (show Below w3.heap.size w3 W6 from by first | exact l6 | exact (Below.refl _ _).drew.trans l6) L3.out.size))
      have R6 := Lib.hid (show BRow W6 w3.heap.size S.size (secF (S.size - 20) (mkN ep (nx + k)) (9 + xm) (loadF pg (decide (k + 1 = n)) xF)) from r6)
      clear l6 r6 p0 p3 g0 g1 g3 g4
      have hsk : sec k = secF (S.size - 20) (mkN ep (nx + k)) (9 + xm) (loadF pg (decide (k + 1 = n)) xF) := by
        rw [HSec.out]; unfold logSec; rw [← HXK.out]; rfl
      have RB := Lib.hid (show Bytes W6 (some ⟨w3.heap.size, 0, none⟩) S.size (sec k) by rw [hsk]; exact (R6.out.bytes (by omega : 0 + S.size ≤ S.size)).congr fun i _ => by rw [Nat.zero_add])
      have KW := Lib.hid (show ∀ W, Below W6.heap.size W6 W → Calls Try.prog 26 #[.pointer (some ⟨M.p, 0, none⟩), .int .i64 (IntKind.i64.wrap ((f : Int) + ((nx : Int) + (k : Int)))), .slice (some ⟨w3.heap.size, 0, none⟩) S.size S.size] W fun e w' => e = .returned (.int .i64 (wrI (f + nx) S.size sec S k)) ∧ Left (wrS (f + nx) S.size sec S (k + 1)) base M w w' from fun W l => by
        rw [show IntKind.i64.wrap ((f : Int) + ((nx : Int) + (k : Int))) = ((f + nx + k : Nat) : Int) by rw [IntKind.wrap_i64]; omega]
        have lW := L6.out.trans (l.mono L6.out.size)
        refine (write_any _ _ _ _ _ (sec k) W base { M with vl := v' } _ (D.out.below lW) (Nat.le_trans hbase (Nat.le_trans T.out.size lW.size)) (by have := wrS_len (f + nx) S.size sec S k; omega) (RB.out.below l (Nat.le_refl _))).mono ?_
        rintro e w' ⟨he, hl⟩
        exact ⟨he, Left.trans T.out KB.out OW.out (Left.behind lW hl)⟩)
      clear hsk
      obtain ⟨I, hI⟩ : ∃ I, I = wrI (f + nx) S.size sec S k := ⟨_, rfl⟩
      rw [← hI] at KW
      have HI := Lib.hid hI
      obtain ⟨g0, g1, g3, g4⟩ := KC.out _ (T.out.trans (Turns.of_below (base := base) (M := M) L6.out))
      clear hI
      go_wp2_with fail
      go_region_held_law (fun W => W.cell? ⟨b, 0, none⟩ = some (.pointer (some ⟨M.p, 0, none⟩)) ∧ W.cell? ⟨b, 1, none⟩ = some (.int .i64 (f : Int)))
        (first | exact ⟨p0, p1⟩ | exact ⟨g0, g1⟩ | go_keep)
        (first
          | (go_at_call 26; with_reducible refine (KW.out _ (Below.refl _ _).drew).mono ?_; rintro e W8 ⟨rfl, l8⟩; obtain ⟨p0, p1, _, _⟩ := KC.out W8 l8.turns))
      have L8 := Lib.hid l8
      clear l8 p0 p1 g0 g1 g3 g4
      by_cases hz : I = 0
      · have hzb : (I != 0) = false := by simp [hz]
        have HZ := Lib.hid hz
        clear hz
        go_wp2
        go_roundw
        case rel => exact ⟨k + 1, by first | rfl | go_num, by omega, fun j hj => by
            rcases Nat.lt_or_ge j k with q | q
            · exact HA.out j q
            · obtain rfl : j = k := by omega
              rw [← HI.out]; exact HZ.out, L8.out⟩
        case measure => simp [intOf]; omega
      · have hzb : (I != 0) = true := by simpa using hz
        have HZ := Lib.hid hz
        clear hz
        go_wp2
        go_ret
        exact .inl ⟨k, hlt, HA.out, by rw [← HI.out]; exact HZ.out, by rw [← HI.out]; rfl, L8.out⟩
    · have hge : ¬ (k : Int) < n := by omega
      have e : k = n := by omega
      subst e
      obtain ⟨g0, _, _, _⟩ := KC.out _ T.out
      have KF := Lib.hid (flush_any wo base { M with vl := v' } _ D.out)
      go_wp2_with (go_at_call 52; refine KF.out.mono ?_; rintro e w' ⟨rfl, l⟩; have L := Lib.hid l; clear l)
      go_ret
      exact .inr ⟨HA.out, rfl, Left.trans T.out KB.out OW.out L.out⟩
end Go.Proofs.Ytdbfmllcapikkaa
/- log's Append. -/
namespace Go.Proofs.Ytdbfmllcapikkaa
open Go.RowKit
set_option linter.unusedVariables false

theorem Grp.below {w w' : World} {M : DM} {bb o n : Nat} {X : Nat → ChD} (h : Grp w M bb o n X) (l : Below w.heap.size w w') : Grp w' M bb o n X :=
  ⟨h.lt, fun i hi => ⟨(h.ok i hi).by_.below l (Nat.le_refl _), (h.ok i hi).mc, (h.ok i hi).cc, (h.ok i hi).nil_, (h.ok i hi).aw⟩, h.aw, fun i hi => ⟨kept_l l (cell_lt' (h.at_ i hi).c0) (h.at_ i hi).c0, kept_l l (cell_lt' (h.at_ i hi).c1) (h.at_ i hi).c1⟩⟩
theorem Grp.chs {w : World} {M : DM} {bb o n : Nat} {X : Nat → ChD} (h : Grp w M bb o n X) : Chs w (some ⟨bb, o, none⟩) n X :=
  ⟨by have := h.lt; omega, fun i hi => (h.ok i hi).by_.1, fun _ => ⟨bb, o, rfl, h.at_⟩⟩
theorem refuse_zero {dead : Bool} {n : Nat} {X : Nat → ChD} {room left : Int} (h : refuseI dead n X room left = 0) : dead = false ∧ 1 ≤ n ∧ (∀ i, i < n → pageB (X i)) ∧ (∀ i, i < n → ((X i).m : Int) = room) ∧ (n : Int) ≤ left := by
  unfold refuseI at h
  split at h
  · cases h
  split at h
  · cases h
  split at h
  · cases h
  split at h
  · cases h
  split at h
  · cases h
  rename_i h1 h2 h3 h4 h5
  exact ⟨by simpa using h1, by omega, fun i hi => Classical.byContradiction fun q => h3 ⟨i, hi, q⟩, fun i hi => Classical.byContradiction fun q => h4 ⟨i, hi, q⟩, by omega⟩
/-- What Append tells and leaves. -/
def AppP [Spare] (b f cn ep nx : Nat) (dead : Bool) (n : Nat) (X : Nat → ChD) (base : Nat) (M : DM) (S : DS) (w : World) (e : Ending) (w' : World) : Prop :=
  (refuseI dead n X ((S.size : Int) - 45) ((cn : Int) - nx) ≠ 0 ∧ e = .returned (.int .i64 (refuseI dead n X ((S.size : Int) - 45) ((cn : Int) - nx))) ∧ Below w.heap.size w w') ∨
    (refuseI dead n X ((S.size : Int) - 45) ((cn : Int) - nx) = 0 ∧ ∃ w1 w8 I, Below w.heap.size w w1 ∧ WrP (f + nx) S.size n (logSec S.size ep nx n X) base M S w1 (.returned (.int .i64 I)) w8 ∧ e = .returned (.int .i64 I) ∧
      (I = 0 ∧ w' = w8.setCell ⟨b, 4, none⟩ (.int .i64 ((nx : Int) + n)) ∨ I ≠ 0 ∧ w' = w8.setCell ⟨b, 5, none⟩ (.bool true)))
theorem WrP.told [Spare] {at0 sz n base : Nat} {sec : Nat → Nat → Nat} {M : DM} {S : DS} {w w' : World} {e : Ending} (h : WrP at0 sz n sec base M S w e w') : (∃ I, e = .returned (.int .i64 I)) ∧ Turns base M w w' := by
  rcases h with ⟨k, _, _, _, rfl, l⟩ | ⟨_, rfl, l⟩
  · exact ⟨⟨_, rfl⟩, l.turns⟩
  · exact ⟨⟨_, rfl⟩, l.turns⟩
set_option maxHeartbeats 2000000 in
set_option maxRecDepth 100000 in
theorem append_any [Spare] (b f cn ep nx : Nat) (dead : Bool) (bb o n c : Nat) (X : Nat → ChD) (w : World) (base : Nat) (M : DM) (S : DS) (h : Dsk w base M S) (hbase : base ≤ w.heap.size) (hL : S.loose.length + n < 1000000)
    (hl : w.heap[b]? = some (.cells (lgCells M.p f cn ep nx dead) 85 (0, 0))) (hab : AwB M b) (hf : f ≤ 1048576) (hcn : cn ≤ 1048576) (hnx : nx ≤ cn) (he1 : 1 ≤ ep) (he2 : ep ≤ 1099511627776) (hG : Grp w M bb o n X) :
    Calls Try.prog 17 #[.pointer (some ⟨b, 0, none⟩), .slice (some ⟨bb, o, none⟩) n c] w (AppP b f cn ep nx dead n X base M S w) := by
  have hb : b < w.heap.size := (Array.getElem?_eq_some_iff.1 hl).1
  have KR := Lib.hid (refuse_any b f cn ep nx dead (some ⟨bb, o, none⟩) n c X w base M S h hl (by omega) (by omega) (by omega) (by omega) hG.chs)
  obtain ⟨R, hR⟩ : ∃ R, R = refuseI dead n X ((S.size : Int) - 45) ((cn : Int) - nx) := ⟨_, rfl⟩
  rw [← hR] at KR
  have HR := Lib.hid hR
  have HH := Lib.hid h
  have HL := Lib.hid hl
  have HG := Lib.hid hG
  have hn := hG.lt
  clear h hl hG hR
  go_enter Try.func17, Try.ntmps17
  go_wp2_with fail
  refine KR.out.mono ?_
  rintro e w1 ⟨rfl, l1⟩
  have L1 := Lib.hid l1
  clear l1
  by_cases hz : R = 0
  case neg =>
    have hzb : (R != 0) = true := by simpa using hz
    have HZ := Lib.hid (show refuseI dead n X ((S.size : Int) - 45) ((cn : Int) - nx) ≠ 0 by rw [← HR.out]; exact hz)
    clear hz
    go_wp2
    go_ret
    exact .inl ⟨HZ.out, by rw [← HR.out]; rfl, L1.out⟩
  subst hz
  obtain ⟨z1, z2, z3, z4, z5⟩ := refuse_zero HR.out.symm
  subst z1
  have KW := Lib.hid (lwrite_any b f cn ep nx false bb o n c X w1 base M S (HH.out.below L1.out) (Nat.le_trans hbase L1.out.size) hL ((L1.out.block b hb).trans HL.out) hab hf (by omega) he1 he2 (HG.out.below L1.out) (fun i hi => by have := z4 i hi; omega) z3)
  have Z5 := z5
  clear z3 z4 z5
  go_wp2_with fail
  refine KW.out.mono ?_
  rintro e w8 hw
  obtain ⟨⟨I, rfl⟩, t8⟩ := hw.told
  have HW := Lib.hid hw
  have hl8 := (t8.block b (Nat.lt_of_lt_of_le hb L1.out.size) hab.1 hab.2.1 hab.2.2.1 hab.2.2.2).trans ((L1.out.block b hb).trans HL.out)
  have q4 : w8.cell? ⟨b, 4, none⟩ = some (.int .i64 (nx : Int)) := by simp [World.cell?, hl8, lgCells]
  have q5 : w8.cell? ⟨b, 5, none⟩ = some (.bool false) := by simp [World.cell?, hl8, lgCells]
  have s4 : w8.frozen? ⟨b, 4, none⟩ = false := by simp [World.frozen?, hl8]
  have s5 : w8.frozen? ⟨b, 5, none⟩ = false := by simp [World.frozen?, hl8]
  clear hw t8 hl8
  by_cases hI : I = 0
  · subst hI
    have hw4 : IntKind.i64.wrap ((nx : Int) + (n : Int)) = (nx : Int) + n := by rw [IntKind.wrap_i64]; omega
    go_wp2
    go_ret
    exact .inr ⟨HR.out.symm, w1, w8, 0, L1.out, HW.out, rfl, .inl ⟨rfl, rfl⟩⟩
  · have hzb : (I != 0) = true := by simpa using hI
    go_wp2
    go_ret
    exact .inr ⟨HR.out.symm, w1, w8, I, L1.out, HW.out, rfl, .inr ⟨hI, rfl⟩⟩
end Go.Proofs.Ytdbfmllcapikkaa
/- log's slots: the iterator that it hands back. -/
namespace Go.Proofs.Ytdbfmllcapikkaa
open Go.RowKit
set_option linter.unusedVariables false

theorem slots_any (p : Nat) (first count : Int) (w : World) :
    Calls Try.prog 36 #[.agg #[.pointer (some ⟨p, 0, none⟩), .int .i64 first, .int .i64 count]] w fun e w' =>
      e = .returned (.func (.func 57) #[] #[.pointer (some ⟨w.heap.size, 0, none⟩)]) ∧ w' = w.alloc (.cells #[.pointer (some ⟨p, 0, none⟩), .int .i64 first, .int .i64 count] 80) := by
  go_enter Try.func36, Try.ntmps36
  go_wp2
  go_ret
  exact ⟨rfl, rfl⟩
/-- What a slot's read of the disk tells: its bytes, or the disk's error. -/
def slotI (S : DS) (first k : Nat) : Int := reachI S ((first + k : Nat) : Int)
end Go.Proofs.Ytdbfmllcapikkaa
/- A loop over an iterator whose elements carry memory that the iterator lays in the very round: what it owes of an element's memory at each yield (Y) is told to the body. No word of any package. -/
namespace Go.Proofs.Ytdbfmllcapikkaa
open Go Go.RowKit
set_option linter.unusedVariables false

/-- A loop's two blocks: its own, and ahead of it the one for the rounds' deferred calls (none). -/
def Bk (D : Nat) (r : Loop) (W : World) : Prop := W.heap[D + 1]? = some (.loop r) ∧ W.heap[D]? = some (.deferred (some []))
variable {P : Program} {F : Fence} {D m : Nat} {r r' : Loop} {W W' : World}
theorem Bk.put (h : Bk D r W) (r' : Loop) : Bk D r' (W.putObj (D + 1) (.loop r')) :=
  ⟨World.putObj_heap_same (Array.getElem?_eq_some_iff.1 h.1).1, (World.putObj_heap_other (by omega)).trans h.2⟩
theorem Bk.others (h : Bk D r W) (k : KeepsOthers W W') : Bk D r W' := ⟨k.same _ _ h.1 rfl, k.same _ _ h.2 rfl⟩
theorem Bk.grown {row : Option Nat} (h : Bk D r W) (hg : W.grownBy W' row) (hr : ∀ q, row = some q → ∃ o : Obj, W.heap[q]? = some o ∧ o.isWalk = true) : Bk D r W' :=
  ⟨(grownBy_keeps hg hr h.1 rfl).trans h.1, (grownBy_keeps hg hr h.2 rfl).trans h.2⟩
theorem Bk.made (W : World) (r : Loop) : Bk W.heap.size r ((W.alloc (.deferred (some []))).alloc (.loop r)) := by
  constructor
  · have := World.alloc_heap_new (W.alloc (.deferred (some []))) (.loop r)
    rwa [World.size_alloc] at this
  · exact (Below.heap_alloc _ _ _ (by simp)).trans (World.alloc_heap_new W _)
/-- One round of a loop that is ready. -/
theorem bk_round {ps : Array Tmp} {tmps : Array Value} {assign body : Code} {fn : FuncId} (e1 : r.params = ps) (e2 : r.tmps = tmps) (e3 : r.assign = assign) (e4 : r.body = body) (e5 : r.fn = fn) (hb : Bk D r W) (hs : r.state = .ready) (hfn : F.fn fn) {args : Array Value} (hsz : args.size = ps.size) {a₁ : Act} {Q : Exit → Act → World → Prop} {R : Ending → World → Prop}
    (hassign : ∀ K : Act → World → Prop, K a₁ W → assign.wpIn (F.inRound (D + 1)) m P (Exit.then K (fun _ _ _ => False)) { tmps := (ps.zip args).foldl (fun t (p, v) => t.setIfInBounds p v) tmps, defers := [] } W)
    (hbody : body.wpIn (F.inRound (D + 1)) m P Q a₁ (W.putObj (D + 1) (.loop { r with state := .busy })))
    (hnorm : ∀ a' W', Q .normal a' W' → KeepsOthers (W.putObj (D + 1) (.loop { r with state := .busy })) W' ∧ R (.returned (.bool true)) (W'.putObj (D + 1) (.loop { r with state := .ready, pending := none })))
    (hret : ∀ a' W', Q .ret a' W' → KeepsOthers (W.putObj (D + 1) (.loop { r with state := .busy })) W' ∧ R (.returned (.bool false)) (W'.putObj (D + 1) (.loop { r with state := .done, pending := some .ret })))
    (hexit : ∀ id a' W', Q (.exit id) a' W' → KeepsOthers (W.putObj (D + 1) (.loop { r with state := .busy })) W' ∧ R (.returned (.bool false)) (W'.putObj (D + 1) (.loop { r with state := .done, pending := some (.exit id) })))
    (hno : ∀ e a' W', Q e a' W' → e = .normal ∨ e = .ret ∨ ∃ id, e = .exit id) : YieldAt F m P (D + 1) args W R := by
  subst e1 e2 e3 e4 e5
  refine ⟨r.fn, _, r.assign, r.body, run_yield hb.1 hsz, roundIn_of_wpIn hfn (hassign _ ⟨_, run_beginRound hb.1 hs, wpIn_mono hbody ?_⟩)⟩
  have hb2 := hb.put { r with state := .busy }
  intro e a' W' hq
  rcases hno e a' W' hq with rfl | rfl | ⟨id, rfl⟩
  · obtain ⟨hk, hR⟩ := hnorm a' W' hq
    exact ⟨_, _, run_endRound none (hb2.others hk).1, hR⟩
  · obtain ⟨hk, hR⟩ := hret a' W' hq
    exact ⟨_, _, run_endRound (some .ret) (hb2.others hk).1, hR⟩
  · obtain ⟨hk, hR⟩ := hexit id a' W' hq
    exact ⟨_, _, run_endRound (some (.exit id)) (hb2.others hk).1, hR⟩
/-- The contract of an iterator that owes Y of each element at its yield. -/
def SeqMem {α : Type} (F : Fence) (n : Nat) (P : Program) (g : Nat) (lb : Array Value) (encs : α → Array Value) (Y : α → World → Prop) (Kp : World → World → Prop) (S Sp : List α → Prop) (N : Nat) (w : World) : Prop :=
  ∀ (l : Nat) (J Jx : List α → World → Prop) (W : World), Below w.heap.size w W → AbidesFrom W.heap.size J → AbidesFrom W.heap.size Jx →
    (∀ pre x W1, J pre W1 → Y x W1 → pre.length < N → YieldAt F (n - 1) P l (encs x) W1 fun e W' =>
      (e = .returned (.bool true) ∧ J (pre ++ [x]) W' ∧ Kp W1 W') ∨ (e = .returned (.bool false) ∧ Jx (pre ++ [x]) W')) →
    J [] W →
    CallsIn F n P g (#[.func (.yield l) #[] #[]] ++ lb) W fun e W' => (∃ v, e = .returned v) ∧ ((∃ xs, S xs ∧ J xs W') ∨ (∃ pre, Sp pre ∧ Jx pre W'))
set_option maxHeartbeats 300000 in
/-- The loop over it. How a round may be left: it goes on, returns, or leaves a block. -/
theorem SeqMem.loop {α : Type} {n : Nat} {g : Operand} {ps : Array Tmp} {assign body : Code} {Q : Exit → Act → World → Prop} {a : Act} {w : World}
    (hro : F.round = none) (h1 : 1 ≤ n) {gf : Nat} {lb : Array Value} (hg : a.eval g = .func (.func gf) #[] lb) (hFg : F.fn gf) (eg : ∀ args w, (callFunc gf args).run P w = .ok (.enter gf args) w)
    {encs : α → Array Value} {Y : α → World → Prop} {Kp : World → World → Prop} {S Sp : List α → Prop} {N : Nat} {w0 : World} (hseq : SeqMem F (n - 1) P gf lb encs Y Kp S Sp N w0)
    (hKt : ∀ {A B C : World}, Kp A B → Kp B C → Kp A C) (hKb : ∀ (W : World) (l : Nat) (o o' : Obj), w.heap.size ≤ l → W.heap[l]? = some o → o.isCells = false → o.isWalk = false → Kp W (W.putObj l o'))
    (hY : Own Y) (hb0 : Below w0.heap.size w0 w) (hps : ∀ x, (encs x).size = ps.size)
    (I : List α → World → Prop) (Ix : Code → List α → World → Prop) (hI : Own I) (hIx : ∀ c, Own (Ix c)) (h0 : I [] w) (a₁ : α → Act)
    (hassign : ∀ (l : Nat) (x : α) (W : World) (K : Act → World → Prop), K (a₁ x) W →
      assign.wpIn (F.inRound l) (n - 1 - 1) P (Exit.then K (fun _ _ _ => False)) { tmps := (ps.zip (encs x)).foldl (fun t (p, v) => t.setIfInBounds p v) a.tmps, defers := [] } W)
    (BP : List α → World → Exit → Act → World → Prop)
    (hbody : ∀ (l : Nat) (pre : List α) (x : α) (W : World), I pre W → Y x W → pre.length < N → body.wpIn (F.inRound l) (n - 1 - 1) P (BP (pre ++ [x]) W) (a₁ x) W)
    (hBn : ∀ xs W a' W', BP xs W .normal a' W' → KeepsOthers W W' ∧ Kp W W' ∧ I xs W')
    (hBr : ∀ xs W a' W', BP xs W .ret a' W' → KeepsOthers W W' ∧ Ix .ret xs W')
    (hBe : ∀ xs W id a' W', BP xs W (.exit id) a' W' → KeepsOthers W W' ∧ Ix (.exit id) xs W')
    (hBo : ∀ xs W e a' W', BP xs W e a' W' → e = .normal ∨ e = .ret ∨ ∃ id, e = .exit id)
    (hdone : ∀ (D : Nat) (xs : List α) (W : World), S xs → I xs W → W.heap[D]? = some (.deferred (some [])) → Q .normal { a with defers := { target := .collected D, args := #[] } :: a.defers } W)
    (hstop : ∀ (D : Nat) (c : Code) (pre : List α) (W : World), Sp pre → Ix c pre W → W.heap[D]? = some (.deferred (some [])) → c.wpIn F n P Q { a with defers := { target := .collected D, args := #[] } :: a.defers } W) :
    (Code.rangeFunc g ps assign body).wpIn F n P Q a w := by
  refine wpIn_rangeFunc fun fn hfn => ?_
  rw [hro]
  obtain ⟨rec0, hrec⟩ : ∃ r : Loop, r = { state := .ready, pending := none, fn := fn, tmps := a.tmps, params := ps, assign := assign, body := body, defers := w.heap.size } := ⟨_, rfl⟩
  have f0 : rec0.state = .ready := by rw [hrec]
  have f6 : rec0.pending = none := by rw [hrec]
  have f1 : rec0.params = ps := by rw [hrec]
  have f2 : rec0.tmps = a.tmps := by rw [hrec]
  have f3 : rec0.assign = assign := by rw [hrec]
  have f4 : rec0.body = body := by rw [hrec]
  have f5 : rec0.fn = fn := by rw [hrec]
  have f7 : { rec0 with state := .ready, pending := none } = rec0 := by rw [hrec]
  obtain ⟨W1, hW1⟩ : ∃ W1, W1 = (w.alloc (.deferred (some []))).alloc (.loop rec0) := ⟨_, rfl⟩
  have hB1 : Bk w.heap.size rec0 W1 := by rw [hW1]; exact Bk.made w rec0
  have hI1 : I [] W1 := by rw [hW1]; exact hI.alloc _ (hI.alloc _ h0)
  have hb1 : Below w0.heap.size w0 W1 := by
    rw [hW1]
    exact hb0.trans ((((Below.refl _ w).alloc (Nat.le_refl _) _).alloc (by simp) _).mono hb0.size)
  have cells : ∀ {A : World} {row : Option Nat}, (∀ q, row = some q → W1.heap.size ≤ q ∧ ∃ o : Obj, A.heap[q]? = some o ∧ o.isWalk = true) → ∀ q, row = some q → ∃ o : Obj, A.heap[q]? = some o ∧ o.isCells = false :=
    fun h q e => by obtain ⟨_, o, ho, hw⟩ := h q e; exact ⟨o, ho, Obj.not_cells_of_walk hw⟩
  have call := hseq (w.heap.size + 1) (fun pre W => I pre W ∧ Bk w.heap.size rec0 W) (fun pre W => ∃ c, Ix c pre W ∧ Bk w.heap.size { rec0 with state := .done, pending := some c } W) W1 hb1
    (fun s A B row hs hgr hr => ⟨hI s A B row hs.1 hgr (cells hr), hs.2.grown hgr fun q e => (hr q e).2⟩)
    (fun s A B row hs hgr hr => by
      obtain ⟨c, hc, hk⟩ := hs
      exact ⟨c, hIx c s A B row hc hgr (cells hr), hk.grown hgr fun q e => (hr q e).2⟩)
    (fun pre x W ⟨hi, hk⟩ hy hlen => by
      have hbusy : Kp W (W.putObj (w.heap.size + 1) (.loop { rec0 with state := .busy })) := hKb _ _ _ _ (by omega) hk.1 rfl rfl
      have hb2 := hk.put { rec0 with state := .busy }
      refine bk_round f1 f2 f3 f4 f5 hk f0 hfn (hps x) (fun K hK => hassign _ x W K hK) (hbody _ pre x _ (hI.putObj _ hi hk.1 rfl) (hY.putObj _ hy hk.1 rfl) hlen) ?_ ?_ ?_ (fun e a' W' h => hBo _ _ _ _ _ h)
      · intro a' W' h
        obtain ⟨h3, h4, h5⟩ := hBn _ _ _ _ h
        have hb3 := hb2.others h3
        rw [f7]
        exact ⟨h3, .inl ⟨rfl, ⟨hI.putObj _ h5 hb3.1 rfl, hb3.put _⟩, hKt (hKt hbusy h4) (hKb _ _ _ _ (by omega) hb3.1 rfl rfl)⟩⟩
      · intro a' W' h
        obtain ⟨h3, h5⟩ := hBr _ _ _ _ h
        have hb3 := hb2.others h3
        exact ⟨h3, .inr ⟨rfl, .ret, (hIx _).putObj _ h5 hb3.1 rfl, hb3.put _⟩⟩
      · intro id a' W' h
        obtain ⟨h3, h5⟩ := hBe _ _ _ _ _ h
        have hb3 := hb2.others h3
        exact ⟨h3, .inr ⟨rfl, .exit id, (hIx _).putObj _ h5 hb3.1 rfl, hb3.put _⟩⟩)
    ⟨hI1, hB1⟩
  refine ⟨w.heap.size + 1, [{ target := .collected w.heap.size, args := #[] }], W1, { target := .fn (.func gf) lb, args := #[.func (.yield (w.heap.size + 1)) #[] #[]] }, W1, gf,
    #[.func (.yield (w.heap.size + 1)) #[] #[]] ++ lb, W1, ?_, ?_, ?_, ?_, fun _ => h1, ?_⟩
  · rw [hW1, hrec]; exact run_enterLoop_outer _ _ _ _ _
  · simp only [resolve, hg]
    simp [go_sem]
  · intro f' hf'
    simp [Target.leads] at hf'
    subst hf'
    exact hFg
  · simp [invoke, go_sem, eg]
  · refine call.mono ?_
    rintro e W2 ⟨⟨v, rfl⟩, ⟨xs, hS, hi, hk⟩ | ⟨pre, hSp, c, hc, hk⟩⟩
    · refine ⟨_, _, run_endLoop hk.1 (by rw [f0]; simp), ?_⟩
      rw [f6]
      exact hdone _ xs _ hS (hI.putObj _ hi hk.1 rfl) (hk.put _).2
    · refine ⟨_, _, run_endLoop hk.1 (by simp), ?_⟩
      exact hstop _ c pre _ hSp ((hIx c).putObj _ hc hk.1 rfl) (hk.put _).2
end Go.Proofs.Ytdbfmllcapikkaa
