/- the law's told: the program's postings as the document's. -/
import Derived.Test.YthpfaaindkkpcaaBSame
namespace Go.Proofs.Ythpfaaindkkpcaa
open Go.RowKit Go.Maps
set_option linter.unusedVariables false
set_option linter.unusedSimpArgs false

/-- A posting put behind a row of the call's own, as a step of a region that draws its order. -/
theorem step_pushQ {P : Program} {ops : Array Oper} {o : Oper} {a : Act} {w : World} {K : Act → World → Prop} {Q' : Exit → Act → World → Prop} {E : Prop} (hgd : o.guard = none) (s x : Operand) (t T : TypeId)
    (ho : o.op = .call { callee := .builtin .append, args := #[s, x], argTypes := #[t, t] }) (ht : P.underlying t = some (.slice T))
    (hinfo : (P.info? T).map (fun i => (i.zero, i.size, i.bytes)) = some (some (.agg #[.int .i64 0, .int .i64 0, .slice none 0 0]), 3, 40))
    (base : Nat) (v : Value) (k : Nat) (Q : Nat → Pst) (hs : a.eval s = v) (hown : OwnQ T w base v k Q)
    (p : Pst) (g : Nat) (hx : a.eval x = .slice (some ⟨g, 0, none⟩) 1 1) (hc : ∀ j u, [Value.int .i64 p.row, .int .i64 p.len, .slice p.A p.n p.c][j]? = some u → w.cell? ((⟨g, 0, none⟩ : Addr).add j) = some u)
    (hp : Ints w p.A p.n p.F ∧ In64 p.row ∧ In64 p.len ∧ (p.A = none → p.c = 0) ∧ (0 < p.n → ∀ b o, p.A = some ⟨b, o, none⟩ → some b ≠ v.ownBlock)) (hsmall : k ≤ 1000000) (hbase : base ≤ w.heap.size)
    (h : ∀ v' w', Hid (OwnQ T w' base v' (k + 1) (putQ Q k p)) → Hid (w.grownBy w' v.ownBlock) → K (a.put o.dst v') w') :
    if Region.wanted o (yielded ops a.tmps) = true then Oper.wp P o a w K Q' else E := by
  have hw : Region.wanted o (yielded ops a.tmps) = true := by simp [Region.wanted, hgd]
  rw [if_pos hw]
  obtain ⟨i0, hi, hz0, hz1, hz2⟩ := info_parts hinfo
  obtain ⟨v', w', hr, h1, hg, _, h4⟩ := run_append_own_at (P := P) w base t o.type T i0 (.agg #[.int .i64 0, .int .i64 0, .slice none 0 0]) 3 40 ht hi hz0 hz1 hz2 rfl (by omega) v k (cellsQ Q k) hown.1 ⟨g, 0, none⟩ 1 1 (pcells p) rfl hc (fun u hu => by simp [pcells] at hu; rcases hu with rfl | rfl | rfl <;> rfl) (by unfold maxLen; omega) (by omega) hbase
  unfold Oper.wp
  simp [execOp, ho, resolve, invoke, builtin, hs, hx, hr, Result.andThen]
  have hkeep : ∀ (q : Pst), Ints w q.A q.n q.F → (0 < q.n → ∀ b o, q.A = some ⟨b, o, none⟩ → some b ≠ v.ownBlock) → Ints w' q.A q.n q.F ∧ (0 < q.n → ∀ b o, q.A = some ⟨b, o, none⟩ → some b ≠ v'.ownBlock) := fun q hq hne => by
    refine ⟨hq.keep fun b o e hn => hg.block b (hq.blk b o e hn) (hne hn b o e), fun hn b o e => ?_⟩
    rcases h4 with h4 | h4
    · rw [h4]; exact hne hn b o e
    · rw [h4]
      have := hq.blk b o e hn
      intro e2
      injection e2 with e2
      omega
  refine h v' w' (Lib.hid ⟨by rw [cells_put]; exact h1, fun i hi => ?_⟩) (Lib.hid hg)
  by_cases e : i = k
  · subst e
    rw [putQ_at]
    obtain ⟨a1, a2, a3, a4, a5⟩ := hp
    obtain ⟨b1, b2⟩ := hkeep p a1 a5
    exact ⟨b1, a2, a3, a4, b2⟩
  · rw [putQ_ne e]
    obtain ⟨a1, a2, a3, a4, a5⟩ := hown.2 i (by omega)
    obtain ⟨b1, b2⟩ := hkeep (Q i) a1 a5
    exact ⟨b1, a2, a3, a4, b2⟩
theorem pstInfo2 : (Try.prog.info? 44).map (fun i => (i.zero, i.size, i.bytes)) = some (some (.agg #[.int .i64 0, .int .i64 0, .slice none 0 0]), 3, 40) := by kernel_rfl
theorem putQ_self (P : Nat → Pst) (k : Nat) : putQ P k (P k) = P := by
  funext i
  by_cases e : i = k
  · subst e; rw [putQ_at]
  · rw [putQ_ne e]
abbrev TriT (b o : Nat) (x y z : Value) (W : World) : Prop := W.cell? ⟨b, o, none⟩ = some x ∧ W.cell? ⟨b, o + 1, none⟩ = some y ∧ W.cell? ⟨b, o + 2, none⟩ = some z
theorem triT_drew {W : World} {b o : Nat} {x y z : Value} (h : TriT b o x y z W) : TriT b o x y z W.drew := h
theorem triT_below {W W' : World} {b o B : Nat} {x y z : Value} (hb : Below B W W') (hlt : b < B) (h : TriT b o x y z W) : TriT b o x y z W' :=
  ⟨kcell hb hlt h.1, kcell hb hlt h.2.1, kcell hb hlt h.2.2⟩
theorem triT_alloc {W : World} {b o : Nat} {x y z : Value} (ob : Obj) (h : TriT b o x y z W) : TriT b o x y z (W.alloc ob) :=
  triT_below ((Below.refl _ _).alloc (Nat.le_refl _) ob) (cell_in h.1) h
theorem psts_far {w wr : World} {A : Option Addr} {n k : Nat} {P : Nat → Pst} {v : Value} {T : TypeId} (hP : Psts w A n P) (ho : OwnQ T wr w.heap.size v k P) (i : Nat) (hi : i < n) : 0 < (P i).n → ∀ b o, (P i).A = some ⟨b, o, none⟩ → some b ≠ v.ownBlock := fun hn b o e e2 => by
  have h1 := (hP.2.1 i hi).1.blk b o e hn
  have h2 := (ho.1.lt b e2.symm).1
  omega
set_option maxRecDepth 100000 in
set_option maxHeartbeats 8000000 in
theorem told_any (A : Option Addr) (n c : Nat) (P : Nat → Pst) (w : World) (hI : Psts w A n P) (hn : n ≤ 1000000) :
    Calls Try.prog 8 #[.slice A n c] w fun e w' => ∃ A' c', e = .returned (.slice A' n c') ∧ Psts w' A' n P ∧ Below w.heap.size w w' := by
  have HI := Lib.hid hI
  clear hI
  go_enter Try.func8, Try.ntmps8
  go_wp2_with fail
  go_loopw [3, 4] (fun v i wr => ∃ k : Nat, k ≤ n ∧ i = .int .i64 k ∧ OwnQ 44 wr w.heap.size v k P ∧ Below w.heap.size w wr) (fun _ i _ => n - (intOf i).toNat)
  case atStart => exact ⟨0, by omega, rfl, ownQ_nil _ _ _ _, Below.refl _ _⟩
  case round =>
    obtain ⟨k, hk, rfl, ho, hnx⟩ := hrel
    have HO := Lib.hid ho
    have HX := Lib.hid hnx
    have hws := hnx.size
    clear ho
    by_cases hlt : k < n
    · obtain ⟨b, o, hA, hbl, hc⟩ := HI.out.at_ (by omega)
      subst hA
      have hk3 := hc k hlt
      have q0 := kcell hnx hbl hk3.c0
      have q1 := kcell hnx hbl hk3.c1
      have q2 := kcell hnx hbl hk3.c2
      have hp := HI.out.2.1 k hlt
      have HSelf := Lib.hid (putQ_self P k)
      have HFar := Lib.hid (psts_far HI.out HO.out k hlt)
      have HI1 := Lib.hid (hp.1.below hnx (Nat.le_refl _))
      have HIn := Lib.hid hp.2
      clear hc hk3 hnx hp
      generalize P k = p at *
      have HBw : Hid (Below wr.heap.size wr (wr.drew.alloc (.cells #[.int .i64 p.row, .int .i64 p.len, .slice p.A p.n p.c] 44))) := Lib.hid (((Below.refl _ _).drew).alloc (Nat.le_refl _) _)
      obtain ⟨pr, pl, pA, pn, pc, pF⟩ := p
      dsimp only at *
      have hblr : b < wr.heap.size := Nat.lt_of_lt_of_le hbl hws
      have SC := Lib.hid (show TriT b (o + k * 3) (.int .i64 pr) (.int .i64 pl) (.slice pA pn pc) wr from ⟨q0, q1, q2⟩)
      have HOw := Lib.hid (ownQ_kept HO.out HBw.out)
      have HPp := Lib.hid (show Ints (wr.drew.alloc (.cells #[.int .i64 pr, .int .i64 pl, .slice pA pn pc] 44)) pA pn pF ∧ In64 pr ∧ In64 pl ∧ (pA = none → pc = 0) ∧ (0 < pn → ∀ b o, pA = some ⟨b, o, none⟩ → some b ≠ u3.ownBlock) from ⟨HI1.out.below HBw.out (Nat.le_refl _), HIn.out.1, HIn.out.2.1, HIn.out.2.2, HFar.out⟩)
      have HSz : Hid (w.heap.size ≤ (wr.drew.alloc (.cells #[.int .i64 pr, .int .i64 pl, .slice pA pn pc] 44)).heap.size) := Lib.hid (by simp; omega)
      have HKeep : Hid (∀ W', (wr.drew.alloc (.cells #[.int .i64 pr, .int .i64 pl, .slice pA pn pc] 44)).grownBy W' u3.ownBlock → Below w.heap.size wr W') := Lib.hid fun W' hg => (((Below.refl w.heap.size wr).drew).alloc hws _).grown hg (by simp; omega) (fun j hj => (HO.out.1.lt j hj).1)
      have hk6 : k ≤ 1000000 := by omega

      go_wp2_with fail
      go_region_held_law (fun W => W.cell? ⟨b, o + k * 3, none⟩ = some (.int .i64 pr) ∧ W.cell? ⟨b, o + k * 3 + 1, none⟩ = some (.int .i64 pl) ∧ W.cell? ⟨b, o + k * 3 + 2, none⟩ = some (.slice pA pn pc)) (repeat (first | with_reducible assumption | with_reducible exact SC.out | with_reducible refine triT_alloc _ ?_ | with_reducible refine triT_drew ?_)) (first
        | (refine step_pushQ rfl _ _ 27 44 rfl Try.underlying27 pstInfo2 w.heap.size u3 k P rfl HOw.out ⟨pr, pl, pA, pn, pc, pF⟩ wr.heap.size rfl (cell_three_new _ _ _ _ _) HPp.out hk6 HSz.out ?_; intro v' w2 ho2 hg2; have hS : TriT b (o + k * 3) (.int .i64 pr) (.int .i64 pl) (.slice pA pn pc) w2 := triT_below (HKeep.out _ hg2.out) hbl SC.out))
      go_wp2_with fail
      refine ⟨⟨k + 1, by omega, by go_num, by rw [← HSelf.out]; exact ho2.out, HX.out.trans (HKeep.out _ hg2.out)⟩, by simp [intOf]; omega⟩
    · obtain rfl : n = k := by omega
      obtain ⟨A', c', rfl, hps, hnil⟩ := ownQ_psts HO.out
      have HP := Lib.hid hps
      clear hps hnil
      go_wp2_with fail
      go_ret
      exact ⟨A', c', rfl, HP.out, HX.out⟩
end Go.Proofs.Ythpfaaindkkpcaa
