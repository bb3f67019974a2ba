/- The contract of keep: a loose write of a copy of b. -/
import Derived.Test.YtmeijienfdefjaaDNew
import Derived.Deep.RegionLaw
namespace Go.Proofs.Ytmeijienfdefjaa
open Go.RowKit

theorem OwnB.secV [Spare] {w : World} {base n c : Nat} {A : Option Addr} {F : Nat → Nat} (h : OwnB w base A n c F) (hn : 0 < n) (hE : ∀ g, base ≤ g → Spare.ok g) : SecV w base n (.slice A n c) F := by
  refine ⟨h.2.1, .inr ?_⟩
  have hc := h.2.2
  rcases h.1.2 with ⟨_, h0⟩ | ⟨g, cap, cur, e1, e2, e3, e4, e5, e6, e7⟩
  · omega
  · injection e1 with a1 a2 a3
    subst a1 a3
    refine ⟨g, c, cur, rfl, hc.1, hc.2.1, ⟨e2, hE g e2⟩, e3, fun i hi => ?_⟩
    have := congrArg (fun l => l[i]?) e7
    simp only [Nat.mul_one] at this
    rw [List.getElem?_take_of_lt hi] at this
    rw [← Array.getElem?_toList, this]
    unfold cellsOfF
    rw [List.getElem?_map, List.getElem?_range hi]
    rfl

/-- append onto a row of the call's own, as a step of a region that draws its order. -/
theorem step_append_own {P : Program} {ops : Array Oper} {o : Oper} {a : Act} {w : World} {K : Act → World → Prop} {Q : Exit → Act → World → Prop} {E : Prop} (hgd : o.guard = none) (s x : Operand) (t : TypeId)
    (ho : o.op = .call { callee := .builtin .append, args := #[s, x], argTypes := #[t, t] })
    (base : Nat) (e : TypeId) (i : TypeInfo) (z : Value) (size bytes : Nat) (ht : P.underlying t = some (.slice e)) (hi : P.info? e = some i) (hz : i.zero = some z)
    (hsize : i.size = size) (hby : i.bytes = bytes) (hzs : z.cells.size = size) (hsz : 0 < size)
    (v : Value) (n : Nat) (xs : List Value) (hs : a.eval s = v) (hown : w.ownsRow base e size v n xs)
    (ad : Addr) (m c : Nat) (news : List Value) (hx : a.eval x = .slice (some ad) m c) (hl : news.length = m * size) (hnews : ∀ j u, news[j]? = some u → w.cell? (ad.add j) = some u) (h1 : ∀ u ∈ news, u.oneCell' = true)
    (h63 : n + m ≤ maxLen) (hbytes : (n + m) * bytes ≤ 140737488355328) (hbase : base ≤ w.heap.size)
    (h : ∀ v' w', Hid (w'.ownsRow base e size v' (n + m) (xs ++ news)) → Hid (w.grownBy w' v.ownBlock) → (v'.ownBlock = v.ownBlock ∨ v'.ownBlock = some w.heap.size) → (∃ g cap, v' = .slice (some ⟨g, 0, none⟩) (n + m) cap ∨ n + m = 0) → K (a.put o.dst v') w') :
    if Region.wanted o (yielded ops a.tmps) = true then Oper.wp P o a w K Q else E := by
  have hw : Region.wanted o (yielded ops a.tmps) = true := by simp [Region.wanted, hgd]
  rw [if_pos hw]
  obtain ⟨v', w', hr, h2, h3, _, h5⟩ := run_append_own_at (P := P) w base t o.type e i z size bytes ht hi hz hsize hby hzs hsz v n xs hown ad m c news hl hnews h1 h63 hbytes hbase
  unfold Oper.wp execOp
  simp only [ho, resolve, invoke, builtin, Sem.run_bind, Sem.run_pure, Result.andThen_ok, List.map_toArray, List.map_cons, List.map_nil, hs, hx, hr]
  refine h v' w' h2 h3 h5 ?_
  rcases h2.2 with ⟨_, h0⟩ | ⟨g, cap, cur, e1, _⟩
  · exact ⟨0, 0, .inr h0⟩
  · exact ⟨g, cap, .inl e1⟩

def upd (f : Nat → Nat → Nat) (k : Nat) (F : Nat → Nat) : Nat → Nat → Nat := fun j => if j = k then F else f j
theorem keepB_below [Spare] {w w' : World} {base : Nat} (h : Below w.heap.size w w') : KeepB base w w' := fun g _ _ hg => (h.block g (Array.getElem?_eq_some_iff.1 hg).1).trans hg
theorem SecV.lower [Spare] {w : World} {b base size : Nat} {v : Value} {F : Nat → Nat} (h : SecV w b size v F) (hb : base ≤ b) : SecV w base size v F := by
  refine ⟨h.1, ?_⟩
  rcases h.2 with h2 | ⟨g, c, cs, h1, h2, h3, h4, h5, h6⟩
  · exact .inl h2
  · exact .inr ⟨g, c, cs, h1, h2, h3, ⟨Nat.le_trans hb h4.1, h4.2⟩, h5, h6⟩

/-- A sector's value is put into one of the two lists. -/
theorem Dsk.setNow [Spare] {w : World} {base k : Nat} {M : DM} {S : DS} {y : Value} {F : Nat → Nat} (h : Dsk w base M S) (hy : SecV w base S.size y F) :
    Dsk (w.setCell ⟨M.bn, k, none⟩ y) base M { S with now := upd S.now k F } ∧ KeepB base w (w.setCell ⟨M.bn, k, none⟩ y) := by
  obtain ⟨V, v1, v2⟩ := h.vf
  obtain ⟨U, u1, u2⟩ := h.vn
  obtain ⟨vs, l1, l2, l3⟩ := h.lo
  obtain ⟨c', cv', cn', cc'⟩ := id u1
  have hb : KeepB base w (w.setCell ⟨M.bn, k, none⟩ y) := keepB_store cv' (by decide)
  refine ⟨⟨?_, h.bp, ⟨V, v1.setOther h.bfn y, fun j hj => (v2 j hj).keep hb⟩, ⟨_, u1.set k y, fun j hj => ?_⟩, h.bfn, h.bbf, h.bbn, ⟨vs, l1, ⟨l2.1, ?_⟩, fun j u x hj hx => ⟨(l3 j u x hj hx).1, (l3 j u x hj hx).2.keep hb⟩⟩, h.hN, h.hS, h.hA, h.hL, h.hC, fun g hg => h.hE g (by rw [size_set] at hg; exact hg)⟩, hb⟩
  · rw [Below.heap_setCell w ⟨M.bn, k, none⟩ y M.p (type_ne h.hp cv' (by decide))]
    exact h.hp
  · show SecV _ base S.size (if j = k then y else U j) (upd S.now k F j)
    unfold upd
    by_cases e : j = k
    · rw [if_pos e, if_pos e]; exact hy.keep hb
    · rw [if_neg e, if_neg e]; exact (u2 j hj).keep hb
  · rcases l2.2 with h2 | ⟨g, cap, cur, a1, a2, a3, a4⟩
    · exact .inl h2
    · exact .inr ⟨g, cap, cur, a1, a2, (Below.heap_setCell w ⟨M.bn, k, none⟩ y g (type_ne a3 cv' (by decide))).trans a3, a4⟩
theorem Dsk.setFast [Spare] {w : World} {base k : Nat} {M : DM} {S : DS} {y : Value} {F : Nat → Nat} (h : Dsk w base M S) (hy : SecV w base S.size y F) :
    Dsk (w.setCell ⟨M.bf, k, none⟩ y) base M { S with fast := upd S.fast k F } ∧ KeepB base w (w.setCell ⟨M.bf, k, none⟩ y) := by
  obtain ⟨V, v1, v2⟩ := h.vf
  obtain ⟨U, u1, u2⟩ := h.vn
  obtain ⟨vs, l1, l2, l3⟩ := h.lo
  obtain ⟨c', cv', cn', cc'⟩ := id v1
  have hb : KeepB base w (w.setCell ⟨M.bf, k, none⟩ y) := keepB_store cv' (by decide)
  refine ⟨⟨?_, h.bp, ⟨_, v1.set k y, fun j hj => ?_⟩, ⟨U, u1.setOther (fun e => h.bfn e.symm) y, fun j hj => (u2 j hj).keep hb⟩, h.bfn, h.bbf, h.bbn, ⟨vs, l1, ⟨l2.1, ?_⟩, fun j u x hj hx => ⟨(l3 j u x hj hx).1, (l3 j u x hj hx).2.keep hb⟩⟩, h.hN, h.hS, h.hA, h.hL, h.hC, fun g hg => h.hE g (by rw [size_set] at hg; exact hg)⟩, hb⟩
  · rw [Below.heap_setCell w ⟨M.bf, k, none⟩ y M.p (type_ne h.hp cv' (by decide))]
    exact h.hp
  · show SecV _ base S.size (if j = k then y else V j) (upd S.fast k F j)
    unfold upd
    by_cases e : j = k
    · rw [if_pos e, if_pos e]; exact hy.keep hb
    · rw [if_neg e, if_neg e]; exact (v2 j hj).keep hb
  · rcases l2.2 with h2 | ⟨g, cap, cur, a1, a2, a3, a4⟩
    · exact .inl h2
    · exact .inr ⟨g, cap, cur, a1, a2, (Below.heap_setCell w ⟨M.bf, k, none⟩ y g (type_ne a3 cv' (by decide))).trans a3, a4⟩

theorem writeinfo : (Try.prog.info? 111).map (fun i => (i.zero, i.size, i.bytes)) = some (some (.agg #[.int .i64 0, .slice none 0 0]), 2, 32) := by kernel_rfl

/-- The world at the append: the copy of the write, and the row of one that is appended. -/
structure KeepAt [Spare] (w W : World) (base : Nat) (M : DM) (S : DS) (vs : List Value) (x y : Value) (g : Nat) : Prop where
  d : Dsk W base M S
  own : W.ownsRow base 111 2 M.vl S.loose.length (looseCells S.loose vs)
  news : ∀ j u, [x, y][j]? = some u → W.cell? ((⟨g, 0, none⟩ : Addr).add j) = some u
  below : Below w.heap.size w W
theorem KeepAt.make [Spare] {w W1 : World} {base : Nat} {M : DM} {S : DS} {vs : List Value} {x y : Value} (D : Dsk W1 base M S) (ho : W1.ownsRow base 111 2 M.vl S.loose.length (looseCells S.loose vs)) (hb : Below w.heap.size w W1) (W : World)
    (hW : W = ((W1.alloc (.cells #[x, y] 111)).alloc (.cells #[x, y] 111)).drew) : KeepAt w W base M S vs x y (W1.heap.size + 1) := by
  have e : Below W1.heap.size W1 W := by rw [hW]; exact (((Below.refl _ _).alloc (Nat.le_refl _) _).alloc (by simp) _).drew
  refine ⟨D.below e, by rw [hW]; exact ((ho.alloc _).alloc _).drew, fun j u hj => ?_, hb.trans (e.mono hb.size)⟩
  have hh : W.heap[W1.heap.size + 1]? = some (.cells #[x, y] 111 (0, 0)) := by
    rw [hW]
    have := heap_alloc_new (W1.alloc (.cells #[x, y] 111)) (.cells #[x, y] 111)
    rw [World.size_alloc] at this
    exact this
  have hc := fun i => cell_of_row W (W1.heap.size + 1) i _ _ _ hh
  match j, hj with
  | 0, hj => simp at hj; subst hj; exact (hc 0)
  | 1, hj => simp at hj; subst hj; exact (hc 1)
theorem KeepAt.after [Spare] {w W w2 : World} {base : Nat} {M : DM} {S : DS} {vs : List Value} {x y : Value} {g : Nat} (h : KeepAt w W base M S vs x y g) (hg : W.grownBy w2 M.vl.ownBlock) :
    w2.cell? ⟨M.p, 3, none⟩ = some M.vl ∧ w2.frozen? ⟨M.p, 3, none⟩ = false := by
  have hne : some M.p ≠ M.vl.ownBlock := by
    intro e
    rcases h.own.2 with ⟨hv, _⟩ | ⟨g, cap, cur, hv, _, hh, _⟩
    · rw [hv] at e; cases e
    · rw [hv] at e
      simp only [Value.ownBlock, Option.some.injEq] at e
      exact type_ne h.d.hp hh (by decide) e
  have hp := hg.block M.p (Array.getElem?_eq_some_iff.1 h.d.hp).1 hne
  exact ⟨(World.cell?_of_block (w := W) (a := ⟨M.p, 3, none⟩) hp).trans h.d.c3, (World.frozen?_of_block (w := W) (a := ⟨M.p, 3, none⟩) hp).trans (h.d.frozen 3)⟩

theorem looseCells_snoc : ∀ (ls : List (Nat × (Nat → Nat))) (vs : List Value) (x : Nat × (Nat → Nat)) (y : Value), vs.length = ls.length → looseCells (ls ++ [x]) (vs ++ [y]) = looseCells ls vs ++ [.int .i64 (x.1 : Int), y]
  | [], [], _, _, _ => rfl
  | a :: ls, v :: vs, x, y, h => by
    have := looseCells_snoc ls vs x y (by simpa using h)
    simp only [List.cons_append, looseCells, this]
  | [], _ :: _, _, _, h => by simp at h
  | _ :: _, [], _, _, h => by simp at h

/-- The disk behind the append and the store of its result. -/
theorem keep_loose [Spare] {W w2 : World} {base k g2 c2 : Nat} {M : DM} {S : DS} {vs : List Value} {y : Value} {F : Nat → Nat} (D : Dsk W base M S) (hown : W.ownsRow base 111 2 M.vl S.loose.length (looseCells S.loose vs)) (hvs : vs.length = S.loose.length)
    (hlo : ∀ (j : Nat) (v : Value) (x : Nat × (Nat → Nat)), vs[j]? = some v → S.loose[j]? = some x → x.1 < S.N ∧ SecN W base S.size v x.2) (hk : k < S.N) (hy : SecN W base S.size y F) (hL : S.loose.length < 1000000)
    (hg0 : W.grownBy w2 M.vl.ownBlock) (ho : w2.ownsRow base 111 2 (.slice (some ⟨g2, 0, none⟩) (S.loose.length + 1) c2) (S.loose.length + 1) (looseCells S.loose vs ++ [.int .i64 (k : Int), y])) :
    Dsk (w2.setCell ⟨M.p, 3, none⟩ (.slice (some ⟨g2, 0, none⟩) (S.loose.length + 1) c2)) base { M with vl := .slice (some ⟨g2, 0, none⟩) (S.loose.length + 1) c2 } { S with loose := S.loose ++ [(k, F)] } ∧
    KeepB base W (w2.setCell ⟨M.p, 3, none⟩ (.slice (some ⟨g2, 0, none⟩) (S.loose.length + 1) c2)) := by
  have lt : ∀ {j : Nat} {o : Obj}, W.heap[j]? = some o → j < W.heap.size := fun e => (Array.getElem?_eq_some_iff.1 e).1
  have other : ∀ {j : Nat} {cs : Array Value} {t : TypeId}, W.heap[j]? = some (.cells cs t (0, 0)) → t ≠ 111 → w2.heap[j]? = W.heap[j]? := fun {j cs t} e ht => by
    refine hg0.block j (lt e) fun q => ?_
    rcases hown.2 with ⟨hv, _⟩ | ⟨g, cap, cur, hv, _, hh, _⟩
    · rw [hv] at q; cases q
    · rw [hv] at q
      simp only [Value.ownBlock, Option.some.injEq] at q
      exact type_ne e hh ht q
  have hp2 : w2.heap[M.p]? = some (.cells (diskCells M S) 78 (0, 0)) := (other D.hp (by decide)).trans D.hp
  have kb : KeepB base W (w2.setCell ⟨M.p, 3, none⟩ (.slice (some ⟨g2, 0, none⟩) (S.loose.length + 1) c2)) := fun g cs _ hh => by
    have e := (other hh (by decide)).trans hh
    rw [Below.heap_setCell w2 ⟨M.p, 3, none⟩ _ g (type_ne e hp2 (by decide))]
    exact e
  obtain ⟨V, ⟨c, cv, cn, cc⟩, v2⟩ := D.vf
  obtain ⟨U, ⟨c', cv', cn', cc'⟩, u2⟩ := D.vn
  have cvf := (other cv (by decide)).trans cv
  have cvn := (other cv' (by decide)).trans cv'
  have put : ∀ {j : Nat} {cs : Array Value} {t : TypeId}, w2.heap[j]? = some (.cells cs t (0, 0)) → t ≠ 78 → (w2.setCell ⟨M.p, 3, none⟩ (.slice (some ⟨g2, 0, none⟩) (S.loose.length + 1) c2)).heap[j]? = some (.cells cs t (0, 0)) := fun e ht => by
    rw [Below.heap_setCell w2 ⟨M.p, 3, none⟩ _ _ (type_ne e hp2 ht)]
    exact e
  refine ⟨⟨?_, D.bp, ⟨V, ⟨c, put cvf (by decide), cn, cc⟩, fun i hi => (v2 i hi).keep kb⟩, ⟨U, ⟨c', put cvn (by decide), cn', cc'⟩, fun i hi => (u2 i hi).keep kb⟩, D.bfn, D.bbf, D.bbn, ⟨vs ++ [y], by simp [hvs], ?_, ?_⟩, D.hN, D.hS, D.hA, by simp; omega, D.hC, fun g hg => D.hE g (by rw [size_set] at hg; exact Nat.le_trans hg0.size hg)⟩, kb⟩
  · exact heap_store w2 M.p 3 _ _ _ hp2
  · show World.ownsRow _ base 111 2 _ (S.loose ++ [(k, F)]).length (looseCells (S.loose ++ [(k, F)]) (vs ++ [y]))
    rw [looseCells_snoc _ _ _ _ hvs, List.length_append]
    refine ⟨ho.1, ?_⟩
    rcases ho.2 with ⟨h1, _⟩ | ⟨g, cap, cur, e1, e2, e3, e4⟩
    · cases h1
    · exact .inr ⟨g, cap, cur, e1, e2, put e3 (by decide), e4⟩
  · intro j v x hj hx
    show x.1 < S.N ∧ SecN _ base S.size v x.2
    rcases Nat.lt_or_ge j vs.length with h | h
    · rw [List.getElem?_append_left h] at hj
      have hx' : S.loose[j]? = some x := by
        have := hx
        simp only at this
        rw [List.getElem?_append_left (by omega)] at this
        exact this
      exact ⟨(hlo j v x hj hx').1, (hlo j v x hj hx').2.keep kb⟩
    · have hj2 : j = vs.length := by
        have := (List.getElem?_eq_some_iff.1 hj).1
        simp at this
        omega
      subst hj2
      simp at hj
      simp only [hvs] at hx
      simp at hx
      subst hj hx
      exact ⟨hk, hy.keep kb⟩

def keepS (S : DS) (k : Nat) (F : Nat → Nat) : DS := { S with loose := S.loose ++ [(k, F)], now := upd S.now k F }
def KeepPost [Spare] (k : Nat) (F : Nat → Nat) (base : Nat) (M : DM) (S : DS) (w : World) (e : Ending) (w' : World) : Prop :=
  e = .returned (.tuple #[]) ∧ ∃ v', Dsk w' base { M with vl := v' } (keepS S k F) ∧ Turns base M w w' ∧ KeepB base w w' ∧ (v'.ownBlock = M.vl.ownBlock ∨ ∃ g, v'.ownBlock = some g ∧ w.heap.size ≤ g)

set_option maxHeartbeats 1000000 in
theorem keep_any [Spare] (k b o c : Nat) (F : Nat → Nat) (w : World) (base : Nat) (M : DM) (S : DS) (h : Dsk w base M S) (hbase : base ≤ w.heap.size) (hk : k < S.N) (hL : S.loose.length < 1000000) (hb : Bytes w (some ⟨b, o, none⟩) S.size F) :
    Calls Try.prog 48 #[.pointer (some ⟨M.p, 0, none⟩), .int .i64 k, .slice (some ⟨b, o, none⟩) S.size c] w (KeepPost k F base M S w) := by
  have hS := h.hS
  go_enter Try.func48, Try.ntmps48
  go_wp2_with fail
  refine (clone_any b o S.size c F w hb (by omega)).mono ?_
  rintro e W1 ⟨B, d, rfl, o1, l1⟩
  have D1 := h.below l1
  have sv := o1.secV (by omega) h.hE
  obtain ⟨g1, hg1, _⟩ := o1.at_ (by omega)
  subst hg1
  have hc3 := D1.c3
  obtain ⟨vs, lv1, lv2, lv3⟩ := D1.lo
  obtain ⟨W2, hW2⟩ : ∃ W2, W2 = ((W1.alloc (.cells #[.int .i64 (k : Int), .slice (some ⟨g1, 0, none⟩) S.size d] 111)).alloc (.cells #[.int .i64 (k : Int), .slice (some ⟨g1, 0, none⟩) S.size d] 111)).drew := ⟨_, rfl⟩
  have KA := Lib.hid (KeepAt.make (x := .int .i64 (k : Int)) (y := .slice (some ⟨g1, 0, none⟩) S.size d) D1 lv2 l1 W2 hW2)
  have H1 : Hid (∀ u ∈ [Value.int .i64 (k : Int), .slice (some ⟨g1, 0, none⟩) S.size d], u.oneCell' = true) := Lib.hid fun u hu => by
    simp at hu
    rcases hu with rfl | rfl <;> rfl
  have HW2 := Lib.hid hW2
  have HLV := Lib.hid lv3
  have hz := l1.size
  have hz2 : base ≤ W2.heap.size := by rw [hW2]; simp; omega
  obtain ⟨i0, hi0, hz0, hz1, hz3⟩ := info_parts writeinfo
  have hcA := (D1.below ((Below.refl W1.heap.size W1).alloc (Nat.le_refl _) (.cells #[.int .i64 (k : Int), .slice (some ⟨g1, 0, none⟩) S.size d] 111))).c3
  have hcB := (D1.below (((Below.refl W1.heap.size W1).alloc (Nat.le_refl _) (.cells #[.int .i64 (k : Int), .slice (some ⟨g1, 0, none⟩) S.size d] 111)).alloc (by simp) (.cells #[.int .i64 (k : Int), .slice (some ⟨g1, 0, none⟩) S.size d] 111))).c3
  clear o1 hb lv2 lv3 hW2
  go_wp2
  go_region_law (refine step_append_own rfl (.tmp 16) (.tmp 18) 76 rfl base 111 i0 (.agg #[.int .i64 0, .slice none 0 0]) 2 32 Try.underlying76 hi0 hz0 hz1 hz3 rfl (by decide) M.vl S.loose.length (looseCells S.loose vs) rfl (by have := KA.out.own; rw [HW2.out] at this; exact this) ⟨W1.heap.size + 1, 0, none⟩ 1 1 [.int .i64 (k : Int), .slice (some ⟨g1, 0, none⟩) S.size d] rfl rfl (by have := KA.out.news; rw [HW2.out] at this; exact this) H1.out (by unfold maxLen; omega) (by omega) (by have := hz2; rw [HW2.out] at this; exact this) ?_; intro v2 w2 ho2 hg2 hb2 hs2; have hq2 := KA.out.after (by rw [HW2.out]; exact hg2.out); have hq3 := hq2.1; have hq4 := hq2.2; obtain ⟨g2, c2, hv2⟩ := hs2; obtain rfl := hv2.resolve_right (by omega))
  all_goals
    have G2 : W2.grownBy w2 M.vl.ownBlock := by rw [HW2.out]; exact hg2.out
    have e12 : Below W1.heap.size W1 W2 := by rw [HW2.out]; exact (((Below.refl _ _).alloc (Nat.le_refl _) _).alloc (by simp) _).drew
    have K3 := keep_loose KA.out.d KA.out.own lv1 (fun j v x hj hx => ⟨(HLV.out j v x hj hx).1, (HLV.out j v x hj hx).2.keep (keepB_below e12)⟩) hk ⟨(sv.lower hbase).keep (keepB_below e12), by intro q; cases q⟩ hL G2 ho2.out
    have hwb : W2.cell? ⟨W1.heap.size, 1, none⟩ = some (.slice (some ⟨g1, 0, none⟩) S.size d) := by rw [HW2.out]; simp
    obtain ⟨D3, kb3⟩ := K3
    have sv3 := ((sv.lower hbase).keep (keepB_below (base := base) e12)).keep kb3
    have hown1 : ∀ g, M.vl.ownBlock = some g → g < W1.heap.size := fun g hg => by
      obtain ⟨us, _, o2, _⟩ := D1.lo
      exact (o2.lt g hg).2
    have hzW : W2.heap.size = W1.heap.size + 1 + 1 := by rw [HW2.out]; simp
    have hp1 : M.p < W1.heap.size := (Array.getElem?_eq_some_iff.1 D1.hp).1
    have hwc : (w2.setCell ⟨M.p, 3, none⟩ (.slice (some ⟨g2, 0, none⟩) (S.loose.length + 1) c2)).cell? ⟨W1.heap.size, 1, none⟩ = some (.slice (some ⟨g1, 0, none⟩) S.size d) := by
      rw [World.cell?_setCell_other _ _ _ _ (fun e => by have := congrArg Addr.block e; simp at this; omega)]
      have hb' : w2.heap[W1.heap.size]? = W2.heap[W1.heap.size]? := G2.block W1.heap.size (by omega) (fun e => by have := hown1 _ e.symm; omega)
      exact (World.cell?_of_block (w := W2) (a := ⟨W1.heap.size, 1, none⟩) hb').trans hwb
    have t3 : Turns base M w (w2.setCell ⟨M.p, 3, none⟩ (.slice (some ⟨g2, 0, none⟩) (S.loose.length + 1) c2)) := by
      refine (Turns.of_below l1).trans ((Turns.of_below e12).trans (Turns.trans ⟨G2.os, G2.tape, G2.output, G2.size, fun j hj _ _ _ hv => G2.block j hj (fun e => hv e.symm)⟩ (Turns.store w2 3 _)))
    have kw3 : KeepB base w (w2.setCell ⟨M.p, 3, none⟩ (.slice (some ⟨g2, 0, none⟩) (S.loose.length + 1) c2)) := (keepB_below l1).trans ((keepB_below e12).trans kb3)
    have hb3 : (Value.slice (some ⟨g2, 0, none⟩) (S.loose.length + 1) c2).ownBlock = M.vl.ownBlock ∨ ∃ g, (Value.slice (some ⟨g2, 0, none⟩) (S.loose.length + 1) c2).ownBlock = some g ∧ w.heap.size ≤ g := by
      rcases hb2 with e | e
      · exact .inl e
      · refine .inr ⟨_, e, ?_⟩
        simp
        omega
    generalize w2.setCell ⟨M.p, 3, none⟩ (.slice (some ⟨g2, 0, none⟩) (S.loose.length + 1) c2) = W3 at D3 kb3 sv3 hwc t3 kw3 ⊢
    have hn2 := D3.c2
    obtain ⟨U, u1, _⟩ := D3.vn
    have hnk := u1.cell (i := k) (Nat.lt_of_lt_of_le hk D3.hC.1)
    have hcn := D3.hC.2
    have hnf := u1.frozen k
    obtain ⟨D4, kb4⟩ := D3.setNow (k := k) sv3
    have t4 : Turns base M W3 (W3.setCell ⟨M.bn, k, none⟩ (.slice (some ⟨g1, 0, none⟩) S.size d)) := ⟨rfl, rfl, rfl, by simp [World.setCell], fun j _ _ _ hj _ => Below.heap_setCell W3 ⟨M.bn, k, none⟩ _ j hj⟩
    have DD := Lib.hid D4
    have TT := Lib.hid (t3.trans t4)
    have KK := Lib.hid (kw3.trans kb4)
    have BB := Lib.hid hb3
    have hN := D3.hN
    clear D3 kb3 sv3 t3 kw3 hb3 D4 kb4 t4 G2 e12 hwb hown1 hzW hp1 u1 HLV KA H1 HW2 hz2 hz hcA hcB hq2 hq3 hq4 hb2 hg2 ho2 D1 l1 sv hi0 hz0 hz1 hz3 hc3 hv2
    go_wp2
    go_region
    all_goals
      go_end0
      exact ⟨rfl, _, DD.out.keep rfl rfl rfl (fun _ _ => rfl) (fun _ _ _ hg => hg) (Nat.le_refl _), ⟨TT.out.os, TT.out.tape, TT.out.output, TT.out.size, TT.out.block⟩, KK.out, BB.out⟩
end Go.Proofs.Ytmeijienfdefjaa
