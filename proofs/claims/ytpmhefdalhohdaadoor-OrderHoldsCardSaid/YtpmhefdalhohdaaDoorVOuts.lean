/- A list or an object that a call gathers by append: plain laws on memory. -/
import Derived.Test.YtpmhefdalhohdaaDoorVMem
import Derived.Deep.OwnRows
import Derived.Deep.Draws
import Derived.OwnWalk
import Derived.Maps.AppendAt
import Derived.Deep.RegionHeldLaw
import Derived.Deep.RegionLaw
import Derived.WalkSpells
namespace Go.Proofs.YtpmhefdalhohdaaDoor
open Go.RowKit
set_option linter.unusedVariables false

theorem anyinfo : (Tryd.prog.info? 20).map (fun i => (i.zero, i.size, i.bytes)) = some (some .nilIface, 1, 16) := by kernel_rfl
theorem meminfo : (Tryd.prog.info? 58).map (fun i => (i.zero, i.size, i.bytes)) = some (some (.agg #[.string ⟨#[]⟩, .nilIface]), 2, 32) := by kernel_rfl
/-- Blocks that a call made, but for the row's own. -/
def Free (base : Nat) (w : World) (v : Value) (x : Nat) : Prop := base ≤ x ∧ x < w.heap.size ∧ v.ownBlock ≠ some x
theorem grown_of_below {w w' : World} {r : Option Nat} (h : Below w.heap.size w w') : w.grownBy w' r := ⟨h.os, h.tape, h.output, h.size, fun k hk _ => h.block k hk⟩
theorem own_below {w w' : World} {base n size : Nat} {e : TypeId} {v : Value} {xs : List Value} (h : w.ownsRow base e size v n xs) (hb : Below w.heap.size w w') : w'.ownsRow base e size v n xs :=
  h.kept (grown_of_below (r := none) hb) (by cases v.ownBlock <;> simp)
theorem own_slice {w : World} {base n size : Nat} {e : TypeId} {v : Value} {xs : List Value} (h : w.ownsRow base e size v n xs) : ∃ A c, v = .slice A n c ∧ n ≤ c ∧ c ≤ 9223372036854775807 ∧ ((A = none ∧ n = 0) ∨ ∃ g, A = some ⟨g, 0, none⟩ ∧ base ≤ g ∧ g < w.heap.size ∧ v.ownBlock = some g) := by
  rcases h.2 with ⟨rfl, rfl⟩ | ⟨g, cap, cur, rfl, hb, hg, h1, h2, _⟩
  · exact ⟨none, 0, rfl, Nat.le_refl _, by omega, .inl ⟨rfl, rfl⟩⟩
  · exact ⟨_, cap, rfl, h1, by unfold maxLen at h2; exact h2, .inr ⟨g, rfl, hb, (Array.getElem?_eq_some_iff.1 hg).1, rfl⟩⟩
theorem own_at {w : World} {base n size g : Nat} {e : TypeId} {v : Value} {xs : List Value} (h : w.ownsRow base e size v n xs) (hg : v.ownBlock = some g) {j : Nat} {u : Value} (hu : xs[j]? = some u) : w.cell? ⟨g, j, none⟩ = some u := by
  have := h.cells hg j u hu
  unfold Addr.add at this
  split at this
  · rename_i h0; subst h0; exact this
  · simpa using this
/-- Rows of one or two cells an item: the last cell of each is the item's value, what stands ahead is its name. -/
structure Outs (sz : Nat) (e : TypeId) (base : Nat) (f : Nat → VT) (g : Nat → ByteArray) (j : Nat) (v : Value) (w : World) : Prop where
  lo : base ≤ w.heap.size
  own : ∃ vs, w.ownsRow base e sz v j vs ∧ ∀ i, i < j → (∃ u, vs[i * sz + (sz - 1)]? = some u ∧ HasJ w (Free base w v) (f i) u) ∧ (sz = 2 → vs[i * sz]? = some (.string (g i)))
theorem Outs.below {sz base j : Nat} {e : TypeId} {f : Nat → VT} {g : Nat → ByteArray} {v : Value} {w w' : World} (h : Outs sz e base f g j v w) (hb : Below w.heap.size w w') : Outs sz e base f g j v w' := by
  obtain ⟨hl, vs, h1, h2⟩ := h
  refine ⟨Nat.le_trans hl hb.size, vs, own_below h1 hb, fun i hi => ⟨?_, (h2 i hi).2⟩⟩
  obtain ⟨u, a1, a2⟩ := (h2 i hi).1
  exact ⟨u, a1, a2.keep fun x hx => ⟨hb.block x hx.2.1, hx.1, Nat.lt_of_lt_of_le hx.2.1 hb.size, hx.2.2⟩⟩
theorem Outs.start {sz base : Nat} {e : TypeId} {f : Nat → VT} {g : Nat → ByteArray} {w : World} (hb : base ≤ w.heap.size) : Outs sz e base f g 0 (.slice (some ⟨w.heap.size, 0, none⟩) 0 0) (w.alloc (.cells #[] e)) :=
  ⟨by simp; omega, [], World.ownsRow_made w #[] 0 hb (by unfold maxLen; omega) (by simp), fun i hi => absurd hi (by omega)⟩
/-- What an append of one item leaves. -/
theorem Outs.push {sz base j : Nat} {e : TypeId} {f : Nat → VT} {g : Nat → ByteArray} {v v' : Value} {w w2 w' : World} {u : Value} {vs : List Value} {news : List Value} (hsz : sz = 1 ∧ news = [u] ∨ sz = 2 ∧ news = [.string (g j), u])
    (h : Outs sz e base f g j v w) (hvs : w.ownsRow base e sz v j vs) (hb : Below w.heap.size w w2) (ho : w'.ownsRow base e sz v' (j + 1) (vs ++ news)) (hg : w2.grownBy w' v.ownBlock) (hn : v'.ownBlock = v.ownBlock ∨ v'.ownBlock = some w2.heap.size)
    (hu : HasJ w (Free base w v) (f j) u) : Outs sz e base f g (j + 1) v' w' := by
  obtain ⟨hl, vs', h1, h2⟩ := h
  obtain rfl : vs' = vs := by
    rcases hvs with ⟨a1, ⟨a2, a3⟩ | ⟨g1, c1, cur1, e1, _, e2, _, _, _, e3⟩⟩
    · rcases h1 with ⟨b1, _⟩
      subst a3
      rw [Nat.zero_mul] at a1 b1
      rw [List.eq_nil_of_length_eq_zero a1, List.eq_nil_of_length_eq_zero b1]
    · rcases h1 with ⟨b1, ⟨b2, _⟩ | ⟨g2, c2, cur2, k1, _, k2, _, _, _, k3⟩⟩
      · rw [e1] at b2; cases b2
      · rw [e1] at k1
        injection k1 with k1
        injection k1 with k1
        injection k1 with k1
        subst k1
        rw [e2] at k2
        injection k2 with k2
        injection k2 with k2
        rw [← e3, ← k3, k2]
  have hlen : vs'.length = j * sz := h1.1
  have kp : ∀ x, Free base w v x → w'.heap[x]? = w.heap[x]? ∧ Free base w' v' x := fun x hx => by
    have hx2 : x < w2.heap.size := Nat.lt_of_lt_of_le hx.2.1 hb.size
    refine ⟨(hg.block x hx2 (fun e => hx.2.2 e.symm)).trans (hb.block x hx.2.1), hx.1, Nat.lt_of_lt_of_le hx2 hg.size, ?_⟩
    rcases hn with e | e
    · rw [e]; exact hx.2.2
    · rw [e]; intro q; injection q with q; omega
  have hs1 : 1 ≤ sz := by omega
  refine ⟨Nat.le_trans hl (Nat.le_trans hb.size hg.size), vs' ++ news, ho, fun i hi => ?_⟩
  rcases Nat.lt_or_ge i j with h3 | h3
  · have hm : i * sz + sz ≤ j * sz := by rw [← Nat.succ_mul]; exact Nat.mul_le_mul_right sz h3
    obtain ⟨⟨u', a1, a2⟩, a3⟩ := h2 i h3
    refine ⟨⟨u', by rw [List.getElem?_append_left (by omega)]; exact a1, a2.keep kp⟩, fun e => by rw [List.getElem?_append_left (by omega)]; exact a3 e⟩
  · have : i = j := by omega
    subst this
    rcases hsz with ⟨rfl, rfl⟩ | ⟨rfl, rfl⟩
    · exact ⟨⟨u, by rw [List.getElem?_append_right (by omega), hlen]; simp, hu.keep kp⟩, fun e => by omega⟩
    · exact ⟨⟨u, by rw [List.getElem?_append_right (by omega), hlen]; simp, hu.keep kp⟩, fun _ => by rw [List.getElem?_append_right (by omega), hlen]; simp⟩
theorem Outs.list {base m : Nat} {f : Nat → VT} {g : Nat → ByteArray} {v : Value} {w : World} (h : Outs 1 20 base f g m v w) (b : Bool) (n : Int) (s : ByteArray) (q : Nat) : HasJ w (fun x => base ≤ x ∧ x < w.heap.size) (.mk 4 b n s m f q g) (.iface 50 v) := by
  obtain ⟨hl, vs, h1, h2⟩ := h
  obtain ⟨A, c, e1, e2, e3, e4⟩ := own_slice h1
  refine .inr (.inr (.inr (.inr (.inl ⟨rfl, A, c, by rw [e1], e2, e3, fun x hx hm => ?_, fun i hi => ?_⟩))))
  · rcases e4 with ⟨_, h0⟩ | ⟨g1, rfl, g2, g3, _⟩
    · omega
    · injection hx with hx; subst hx; exact ⟨g2, g3⟩
  · obtain ⟨⟨u, a1, a2⟩, _⟩ := h2 i hi
    rcases e4 with ⟨_, h0⟩ | ⟨g1, rfl, g2, g3, g4⟩
    · omega
    · refine ⟨u, a2.mono fun x hx => ⟨hx.1, hx.2.1⟩, ?_⟩
      rw [cellAt_some, Nat.zero_add]
      exact own_at h1 g4 (by simpa using a1)
theorem Outs.object {base m : Nat} {f : Nat → VT} {g : Nat → ByteArray} {v : Value} {w : World} (h : Outs 2 58 base f g m v w) (hg : ∀ i, i < m → (g i).size ≤ 140737488351232) (b : Bool) (n : Int) (s : ByteArray) (q : Nat) : HasJ w (fun x => base ≤ x ∧ x < w.heap.size) (.mk 5 b n s m f q g) (.iface 56 v) := by
  obtain ⟨hl, vs, h1, h2⟩ := h
  obtain ⟨A, c, e1, e2, e3, e4⟩ := own_slice h1
  refine .inr (.inr (.inr (.inr (.inr (.inl ⟨rfl, A, c, by rw [e1], e2, e3, fun x hx hm => ?_, fun i hi => ?_⟩)))))
  · rcases e4 with ⟨_, h0⟩ | ⟨g1, rfl, g2, g3, _⟩
    · omega
    · injection hx with hx; subst hx; exact ⟨g2, g3⟩
  · obtain ⟨⟨u, a1, a2⟩, a3⟩ := h2 i hi
    rcases e4 with ⟨_, h0⟩ | ⟨g1, rfl, g2, g3, g4⟩
    · omega
    · refine ⟨hg i hi, ?_, u, a2.mono fun x hx => ⟨hx.1, hx.2.1⟩, ?_⟩
      · rw [cellAt_some, Nat.zero_add]
        exact own_at h1 g4 (by rw [Nat.mul_comm]; exact a3 rfl)
      · rw [cellAt_some, Nat.zero_add]
        exact own_at h1 g4 (by rw [Nat.mul_comm 2 i]; exact a1)
/-- append onto a row of the call's own, as a step of a region that draws its order. -/
theorem step_append_own {P : Program} {ops : Array Oper} {o : Oper} {a : Act} {w : World} {K : Act → World → Prop} {Q : Exit → Act → World → Prop} {E : Prop} (hgd : o.guard = none) (s x : Operand) (t : TypeId)
    (ho : o.op = .call { callee := .builtin .append, args := #[s, x], argTypes := #[t, t] })
    (base : Nat) (e : TypeId) (i : TypeInfo) (z : Value) (size bytes : Nat) (ht : P.underlying t = some (.slice e)) (hi : P.info? e = some i) (hz : i.zero = some z)
    (hsize : i.size = size) (hby : i.bytes = bytes) (hzs : z.cells.size = size) (hsz : 0 < size)
    (v : Value) (n : Nat) (xs : List Value) (hs : a.eval s = v) (hown : w.ownsRow base e size v n xs)
    (ad : Addr) (m c : Nat) (news : List Value) (hx : a.eval x = .slice (some ad) m c) (hl : news.length = m * size) (hnews : ∀ j u, news[j]? = some u → w.cell? (ad.add j) = some u) (h1 : ∀ u ∈ news, u.oneCell' = true)
    (h63 : n + m ≤ maxLen) (hbytes : (n + m) * bytes ≤ 140737488355328) (hbase : base ≤ w.heap.size)
    (h : ∀ v' w', Hid (w'.ownsRow base e size v' (n + m) (xs ++ news)) → Hid (w.grownBy w' v.ownBlock) → (v'.ownBlock = v.ownBlock ∨ v'.ownBlock = some w.heap.size) → (∃ g cap, v' = .slice (some ⟨g, 0, none⟩) (n + m) cap ∨ n + m = 0) → K (a.put o.dst v') w') :
    if Region.wanted o (yielded ops a.tmps) = true then Oper.wp P o a w K Q else E := by
  have hw : Region.wanted o (yielded ops a.tmps) = true := by simp [Region.wanted, hgd]
  rw [if_pos hw]
  obtain ⟨v', w', hr, h2, h3, _, h5⟩ := run_append_own_at (P := P) w base t o.type e i z size bytes ht hi hz hsize hby hzs hsz v n xs hown ad m c news hl hnews h1 h63 hbytes hbase
  unfold Oper.wp execOp
  simp only [ho, resolve, invoke, builtin, Sem.run_bind, Sem.run_pure, Result.andThen_ok, List.map_toArray, List.map_cons, List.map_nil, hs, hx, hr]
  refine h v' w' h2 h3 h5 ?_
  rcases h2.2 with ⟨_, h0⟩ | ⟨g, cap, cur, e1, _⟩
  · exact ⟨0, 0, .inr h0⟩
  · exact ⟨g, cap, .inl e1⟩

end Go.Proofs.YtpmhefdalhohdaaDoor
