/- Merged texts: LReadEp, LGrpOf, LStep, LStC, LGd, LRows, LTold, FBack, FTurn, FTornPlain. -/
import Derived.Test.YtmikemijdglgaaaQf
import Derived.Laws.StructEq
/- log.Read, where the epoch is none. -/
namespace Go.Proofs.Ytmikemijdglgaaa
open Go.RowKit
set_option linter.unusedVariables false
set_option linter.unusedSimpArgs false

set_option maxRecDepth 100000 in
set_option maxHeartbeats 4000000 in
theorem read_ep (dv : Value) (p : Nat) (first count epoch : Int) (he : isEpochB epoch = false) (w : World) (hP : ∀ W, Below w.heap.size w W → Calls Try.prog 34 #[dv, .int .i64 first, .int .i64 count] W fun e w' => e = .returned (.tuple #[.agg #[.pointer (some ⟨p, 0, none⟩), .int .i64 first, .int .i64 count], .int .i64 0]) ∧ Below W.heap.size W w') :
    Calls Try.prog 13 #[dv, .int .i64 first, .int .i64 count, .int .i64 epoch] w fun e w' => e = .returned (.tuple #[.slice none 0 0, .int .i64 1]) ∧ Below w.heap.size w w' := by
  obtain ⟨B0, hB0⟩ : ∃ B0 : World, B0 = ((w.alloc (.cells #[.int .i64 epoch] 3)).alloc (.cells #[.slice none 0 0] 32)).alloc (.cells #[.int .i64 0] 29) := ⟨_, rfl⟩
  have hb0 : Below w.heap.size w B0 := by
    subst hB0
    exact (((Below.refl _ _).alloc (Nat.le_refl _) _).alloc (by simp) _).alloc (by simp; omega) _
  have hs0 : B0.heap.size = w.heap.size + 3 := by subst hB0; simp
  have e0 : Boxed B0 w.heap.size 3 (.int .i64 epoch) := by subst hB0; exact ((Boxed.new _ _ _).alloc _).alloc _
  have e1 : Boxed B0 (w.heap.size + 1) 32 (.slice none 0 0) := by subst hB0; exact (boxed_at (by simp) _ _).alloc _
  have e2 : Boxed B0 (w.heap.size + 1 + 1) 29 (.int .i64 0) := by subst hB0; exact boxed_at (by simp) _ _
  have KP := Lib.hid (hP B0 hb0)
  have HB := Lib.hid hB0
  have HE := Lib.hid (And.intro hb0 (And.intro e1 e2))
  have HE0 := Lib.hid e0
  have HEp := Lib.hid he
  rw [HB.out] at KP
  clear hB0 hb0 e0 e1 e2 hP he
  go_enter Try.func13, Try.ntmps13
  go_upto_region 1 with (fail)
  rw [← HB.out] at KP ⊢
  go_wp2_with (first
    | (go_at_call 35; refine (isEpoch_any _ _).mono ?_; rintro _ _ ⟨rfl, rfl⟩; rw [HEp.out])
    | (go_at_call 34; refine KP.out.mono ?_; rintro _ w1 ⟨rfl, l1⟩; have hs1 := l1.size; have b1 : Boxed w1 (w.heap.size + 1) 32 (.slice none 0 0) := (l1.block _ (by omega)).trans HE.out.2.1; have b2 : Boxed w1 (w.heap.size + 1 + 1) 29 (.int .i64 0) := (l1.block _ (by omega)).trans HE.out.2.2; have b0 : Boxed w1 w.heap.size 3 (.int .i64 epoch) := (l1.block _ (by omega)).trans HE0.out; have c0 := b0.cell; have hl0 : w.heap.size < w1.heap.size := (by omega); have c1 := b1.cell; have c2 := b2.cell; have f1 := b1.frozen; have f2 := b2.frozen; have hl1 : w.heap.size + 1 < w1.heap.size := (by omega); have hl2 : w.heap.size + 1 + 1 < w1.heap.size := (by omega); have HL := Lib.hid (And.intro l1 (And.intro b1 b2)); clear l1 b0 b1 b2))
  have b1 := ((Boxed.set (.slice none 0 0) HL.out.2.1).other (B' := w.heap.size + 1 + 1) (by omega) (.int .i64 1)).alloc (.cells #[.pointer (some ⟨p, 0, none⟩), .int .i64 first, .int .i64 count] 80)
  have b2 := (Boxed.set (.int .i64 1) (HL.out.2.2.other (B' := w.heap.size + 1) (by omega) (.slice none 0 0))).alloc (.cells #[.pointer (some ⟨p, 0, none⟩), .int .i64 first, .int .i64 count] 80)
  have k1 := b1.cell
  have k2 := b2.cell
  refine bodyPost_ret (v := .tuple #[.slice none 0 0, .int .i64 1]) (by simp [results, Try.results13, go_sem, k1, k2]) rfl ⟨rfl, ?_⟩
  exact (((HE.out.1.trans (HL.out.1.mono HE.out.1.size)).setCell (p := ⟨w.heap.size + 1, 0, none⟩) (by show w.heap.size ≤ w.heap.size + 1; omega) _).setCell (p := ⟨w.heap.size + 1 + 1, 0, none⟩) (by show w.heap.size ≤ w.heap.size + 1 + 1; omega) _).alloc (by rw [size_set, size_set]; omega) _
/-- Read, where no log may stand or the epoch is none. -/
theorem read_err [Spare] (first count epoch : Int) (w : World) (base : Nat) (M : DM) (S : DS) (h : Dsk w base M S) (f0 : -9223372036854775808 ≤ first) (f1 : first ≤ 9223372036854775807) (c1 : count ≤ 9223372036854775807) (hno : ¬ (plB S.N first count ∧ isEpochB epoch = true)) :
    Calls Try.prog 13 #[.pointer (some ⟨M.p, 0, none⟩), .int .i64 first, .int .i64 count, .int .i64 epoch] w fun e w' => e = .returned (.tuple #[.slice none 0 0, .int .i64 1]) ∧ Below w.heap.size w w' := by
  by_cases hp : plB S.N first count
  · refine read_ep _ M.p first count epoch (by cases h : isEpochB epoch with | false => rfl | true => exact absurd ⟨hp, h⟩ hno) w fun W l => (placeOf_any first count W base M S (h.below l) f0 f1 c1).mono fun e w' k => ?_
    obtain ⟨⟨_, k1⟩ | ⟨k0, _⟩, k2⟩ := k
    · exact ⟨k1, k2⟩
    · exact absurd hp k0
  · exact read_off first count epoch w base M S h f0 f1 c1 hp
end Go.Proofs.Ytmikemijdglgaaa
/- What the law's group has made, as Append wants it. -/
namespace Go.Proofs.Ytmikemijdglgaaa
open Go.RowKit
set_option linter.unusedVariables false
set_option linter.unusedSimpArgs false

/-- A put as a change. -/
def pX (room : Nat) (P : Nat → PutD) (A : Nat → Option Addr) (i : Nat) : ChD := ⟨(P i).page, A i, putN room (P i), putN room (P i), fun _ => (P i).b⟩
theorem putN_le {room : Nat} (hr : room ≤ 100000) (p : PutD) : putN room p ≤ 100000 := by
  unfold putN
  split
  · exact hr
  · omega
theorem chCells_at {ls : List (Int × Value)} {j : Nat} {x : Int × Value} (h : ls[j]? = some x) : (chCells ls)[j * 2]? = some (.int .i64 x.1) ∧ (chCells ls)[j * 2 + 1]? = some x.2 := by
  induction ls generalizing j with
  | nil => simp at h
  | cons y l ih =>
    unfold chCells
    rw [List.flatMap_cons]
    match j with
    | 0 => simp at h; subst h; exact ⟨rfl, rfl⟩
    | j + 1 =>
      have q := ih (j := j) (by simpa using h)
      unfold chCells at q
      refine ⟨?_, ?_⟩
      · rw [show (j + 1) * 2 = j * 2 + 2 by omega]; exact q.1
      · rw [show (j + 1) * 2 + 1 = (j * 2 + 1) + 2 by omega]; exact q.2
theorem grp_of [Spare] {w0 w1 w2 : World} {base room n : Nat} {M : DM} {S : DS} {P : Nat → PutD} {v : Value} (hO : On w0 base M S w1) (hr : room ≤ 100000) (hn1 : 1 ≤ n) (hn : n ≤ 1000) (h : GrpR w1.heap.size w2 room P n v) :
    ∃ g c A, v = .slice (some ⟨g, 0, none⟩) n c ∧ Grp w2 M g 0 n (pX room P A) := by
  obtain ⟨ls, hls, hown, hpr⟩ := h
  obtain ⟨k, rfl⟩ : ∃ k, n = k + 1 := ⟨n - 1, by omega⟩
  obtain ⟨g, c, rfl⟩ := ownsRow_succ hown
  have hg := (hown.lt g rfl).1
  have hx : ∀ i, i < k + 1 → ∃ b, ls[i]? = some ((P i).page, .slice (some ⟨b, 0, none⟩) (putN room (P i)) (putN room (P i))) ∧ w1.heap.size ≤ b ∧ BRow w2 b (putN room (P i)) (fun _ => (P i).b) := fun i hi => by
    have hi' : i < ls.length := by omega
    obtain ⟨h1, b, h2, h3, h4⟩ := hpr i _ (List.getElem?_eq_getElem hi')
    exact ⟨b, by rw [List.getElem?_eq_getElem hi']; congr 1; exact Prod.ext h1 h2, h3, h4⟩
  refine ⟨g, c, fun i => if hi : i < k + 1 then some ⟨(hx i hi).choose, 0, none⟩ else none, rfl, by omega, fun i hi => ?_, awB_new hO hg, fun i hi => ?_⟩
  · obtain ⟨q1, q2, q3⟩ := (hx i hi).choose_spec
    have e : (pX room P (fun i => if hi : i < k + 1 then some ⟨(hx i hi).choose, 0, none⟩ else none) i).A = some ⟨(hx i hi).choose, 0, none⟩ := by unfold pX; dsimp only; rw [dif_pos hi]
    refine ⟨?_, Nat.le_refl _, Nat.le_trans (putN_le hr _) (by omega), (fun e' => by rw [e] at e'; cases e'), fun b o e' => ?_⟩
    · rw [e]; exact (q3.bytes (o := 0) (m := putN room (P i)) (by omega)).congr fun j _ => rfl
    · rw [e] at e'
      cases e'
      exact awB_new hO q2
  · obtain ⟨q1, q2, q3⟩ := (hx i hi).choose_spec
    have e : (pX room P (fun i => if hi : i < k + 1 then some ⟨(hx i hi).choose, 0, none⟩ else none) i).A = some ⟨(hx i hi).choose, 0, none⟩ := by unfold pX; dsimp only; rw [dif_pos hi]
    have hl := chCells_at q1
    have hlen := chCells_len ls
    have d : ∀ j u, (chCells ls)[j]? = some u → w2.cell? ⟨g, j, none⟩ = some u := fun j u hu => by
      obtain ⟨hj, _⟩ := List.getElem?_eq_some_iff.1 hu
      rw [World.ownsRow.cellAt (w := w2) (base := w1.heap.size) (e := 44) (size := 2) hown j (by omega)]
      exact hu
    refine ⟨?_, ?_⟩
    · rw [Nat.zero_add]; exact d _ _ hl.1
    · rw [Nat.zero_add, e]; exact d _ _ hl.2
set_option maxHeartbeats 2000000 in
set_option maxRecDepth 100000 in
/-- Append of no changes. -/
theorem append_empty [Spare] (b f cn ep nx : Nat) (dead : Bool) (A : Option Addr) (c : Nat) (w : World) (base : Nat) (M : DM) (S : DS) (h : Dsk w base M S)
    (hl : w.heap[b]? = some (.cells (lgCells M.p f cn ep nx dead) 85 (0, 0))) (hcn : cn ≤ 1048576) (hnx : nx ≤ cn) :
    Calls Try.prog 17 #[.pointer (some ⟨b, 0, none⟩), .slice A 0 c] w fun e w' => e = .returned (.int .i64 (if dead = true then 21 else 1)) ∧ Below w.heap.size w w' := by
  have KR := Lib.hid (refuse_any b f cn ep nx dead A 0 c (fun _ => ⟨0, none, 0, 0, fun _ => 0⟩) w base M S h hl (by omega) (by omega) (by omega) (by omega) ⟨by omega, fun i hi => absurd hi (by omega), fun hi => absurd hi (by omega)⟩)
  rw [show refuseI dead 0 (fun _ => (⟨0, none, 0, 0, fun _ => 0⟩ : ChD)) ((S.size : Int) - 45) ((cn : Int) - nx) = if dead = true then 21 else 1 by unfold refuseI; rw [if_pos rfl]] at KR
  clear h hl
  cases dead
  all_goals
    go_enter Try.func17, Try.ntmps17
    go_wp2_with fail
    refine KR.out.mono ?_
    rintro e w1 ⟨rfl, l1⟩
    have L1 := Lib.hid l1
    clear l1
    go_wp2
    go_ret
    exact ⟨rfl, L1.out⟩
end Go.Proofs.Ytmikemijdglgaaa
/- One step of a law over a log: group and Append, as plain data; what is kept beside it. -/
namespace Go.Proofs.Ytmikemijdglgaaa
open Go.RowKit
set_option linter.unusedVariables false
set_option linter.unusedSimpArgs false

/-- What is none of a disk's own lists, nor block b, is as it was. -/
def KeepT (b : Nat) (w w' : World) : Prop := ∀ k cs t, w.heap[k]? = some (.cells cs t (0, 0)) → k ≠ b → t ≠ 78 → t ≠ 42 → t ≠ 111 → w'.heap[k]? = some (.cells cs t (0, 0))
theorem KeepT.refl (b : Nat) (w : World) : KeepT b w w := fun _ _ _ h _ _ _ _ => h
theorem KeepT.trans {b : Nat} {x y z : World} (h : KeepT b x y) (k : KeepT b y z) : KeepT b x z := fun q cs t e h0 h1 h2 h3 => k q cs t (h q cs t e h0 h1 h2 h3) h0 h1 h2 h3
theorem KeepT.below {b : Nat} {w w' : World} (l : Below w.heap.size w w') : KeepT b w w' := fun k cs t e _ _ _ _ => (l.block k (Array.getElem?_eq_some_iff.1 e).1).trans e
theorem KeepT.turns [Spare] {b base : Nat} {M : DM} {S : DS} {w w' : World} (d : Dsk w base M S) (t : Turns base M w w') : KeepT b w w' := fun k cs ty e _ h1 h2 h3 => by
  obtain ⟨a1, a2, a3, a4⟩ := d.apartR e h1 h2 h3
  exact (t.block k (Array.getElem?_eq_some_iff.1 e).1 a1 a2 a3 a4).trans e
theorem KeepT.set {b i : Nat} {w : World} {v : Value} : KeepT b w (w.setCell ⟨b, i, none⟩ v) := fun k cs t e h0 _ _ _ => (Below.heap_setCell _ _ _ _ h0).trans e
theorem KeepT.brow {b g n : Nat} {w w' : World} {F : Nat → Nat} (h : KeepT b w w') (r : BRow w g n F) (hb : g ≠ b) : BRow w' g n F := by
  obtain ⟨⟨c, hc, hx⟩, h2⟩ := r
  exact ⟨⟨c, h g c _ hc hb (by decide) (by decide) (by decide), hx⟩, h2⟩

/-- A log, as plain data: its disk, its next slot, whether it is dead. -/
structure LS where
  S : DS
  nx : Nat
  dead : Bool
/-- A log over a disk, in memory. -/
def LSt [Spare] (w0 : World) (base b f cn ep : Nat) (M : DM) (L : LS) (w : World) : Prop :=
  (∃ v, On w0 base { M with vl := v } L.S w) ∧ w.heap[b]? = some (.cells (lgCells M.p f cn ep L.nx L.dead) 85 (0, 0)) ∧ base ≤ b
theorem LSt.below [Spare] {w0 w w' : World} {base b f cn ep : Nat} {M : DM} {L : LS} (h : LSt w0 base b f cn ep M L w) (l : Below w.heap.size w w') : LSt w0 base b f cn ep M L w' := by
  obtain ⟨⟨v, h1⟩, h2, h3⟩ := h
  exact ⟨⟨v, h1.below l⟩, (l.block b (Array.getElem?_eq_some_iff.1 h2).1).trans h2, h3⟩
theorem LSt.from0 [Spare] {w0 w : World} {base b f cn ep : Nat} {M : DM} {L : LS} (h : LSt w0 base b f cn ep M L w) : Below base w0 w := by
  obtain ⟨⟨v, h1⟩, _⟩ := h
  exact h1.b
/-- A put as a change, wherever its load lies. -/
def pX0 (room : Nat) (P : Nat → PutD) (i : Nat) : ChD := ⟨(P i).page, none, putN room (P i), putN room (P i), fun _ => (P i).b⟩
def secL (ep : Nat) (L : LS) (n : Nat) (P : Nat → PutD) : Nat → Nat → Nat := logSec L.S.size ep L.nx n (pX0 (L.S.size - 45) P)
noncomputable def appR (cn : Nat) (L : LS) (n : Nat) (P : Nat → PutD) : Int := refuseI L.dead n (pX0 (L.S.size - 45) P) ((L.S.size : Int) - 45) ((cn : Int) - L.nx)
/-- What Append of a group of puts tells, and makes of a log. -/
noncomputable def appT (f cn ep : Nat) (L : LS) (n : Nat) (P : Nat → PutD) : Int × LS :=
  if appR cn L n P ≠ 0 then (appR cn L n P, L) else
    match (List.range n).find? (fun k => decide (wrI (f + L.nx) L.S.size (secL ep L n P) L.S k ≠ 0)) with
    | some k => (wrI (f + L.nx) L.S.size (secL ep L n P) L.S k, ⟨wrS (f + L.nx) L.S.size (secL ep L n P) L.S (k + 1), L.nx, true⟩)
    | none => (flushI (wrS (f + L.nx) L.S.size (secL ep L n P) L.S n), ⟨flushD (wrS (f + L.nx) L.S.size (secL ep L n P) L.S n), if flushI (wrS (f + L.nx) L.S.size (secL ep L n P) L.S n) = 0 then L.nx + n else L.nx, decide (flushI (wrS (f + L.nx) L.S.size (secL ep L n P) L.S n) ≠ 0)⟩)
theorem appT_no {f cn ep : Nat} {L : LS} {n : Nat} {P : Nat → PutD} (h : appR cn L n P ≠ 0) : appT f cn ep L n P = (appR cn L n P, L) := if_pos h
theorem appT_at {f cn ep k : Nat} {L : LS} {n : Nat} {P : Nat → PutD} (h : appR cn L n P = 0) (hk : k < n) (h1 : ∀ j, j < k → wrI (f + L.nx) L.S.size (secL ep L n P) L.S j = 0) (h2 : wrI (f + L.nx) L.S.size (secL ep L n P) L.S k ≠ 0) :
    appT f cn ep L n P = (wrI (f + L.nx) L.S.size (secL ep L n P) L.S k, ⟨wrS (f + L.nx) L.S.size (secL ep L n P) L.S (k + 1), L.nx, true⟩) := by
  unfold appT
  rw [if_neg (by rw [h]; exact fun q => q rfl), (List.find?_range_eq_some (i := k)).2 ⟨by simpa using h2, List.mem_range.2 hk, fun j hj => by simpa using h1 j hj⟩]
theorem appT_all {f cn ep : Nat} {L : LS} {n : Nat} {P : Nat → PutD} (h : appR cn L n P = 0) (h1 : ∀ j, j < n → wrI (f + L.nx) L.S.size (secL ep L n P) L.S j = 0) :
    appT f cn ep L n P = (flushI (wrS (f + L.nx) L.S.size (secL ep L n P) L.S n), ⟨flushD (wrS (f + L.nx) L.S.size (secL ep L n P) L.S n), if flushI (wrS (f + L.nx) L.S.size (secL ep L n P) L.S n) = 0 then L.nx + n else L.nx, decide (flushI (wrS (f + L.nx) L.S.size (secL ep L n P) L.S n) ≠ 0)⟩) := by
  unfold appT
  rw [if_neg (by rw [h]; exact fun q => q rfl), List.find?_range_eq_none.2 fun j hj => by simpa using h1 j hj]
theorem ret_inj {a b : Int} (h : Ending.returned (.int .i64 a) = .returned (.int .i64 b)) : a = b := by injection h with h; injection h
theorem LSt.wrote [Spare] {w0 w w1 w8 : World} {base b f cn ep i : Nat} {M : DM} {L : LS} {S' : DS} {x : Value} {nx' : Nat} {dead' : Bool} {v : Value} (hO : On w0 base { M with vl := v } L.S w1) (h2 : w1.heap[b]? = some (.cells (lgCells M.p f cn ep L.nx L.dead) 85 (0, 0))) (h3 : base ≤ b)
    (hL : Left S' base { M with vl := v } w1 w8) (hc : (lgCells M.p f cn ep L.nx L.dead).setIfInBounds i x = lgCells M.p f cn ep nx' dead') : LSt w0 base b f cn ep M ⟨S', nx', dead'⟩ (w8.setCell ⟨b, i, none⟩ x) ∧ KeepT b w1 (w8.setCell ⟨b, i, none⟩ x) := by
  obtain ⟨a1, a2, a3, a4⟩ := hO.d.apartR h2 (by decide) (by decide) (by decide)
  have hb1 := (Array.getElem?_eq_some_iff.1 h2).1
  obtain ⟨v', hd, ht, _, _⟩ := hL
  have hl8 := (ht.block b hb1 a1 a2 a3 a4).trans h2
  have hO8 : On w0 base { M with vl := v' } S' w8 := ⟨hd, ht.on hO, hO.z⟩
  refine ⟨⟨⟨v', on_set hO8 hl8 h3⟩, ?_, h3⟩, (KeepT.turns hO.d ht).trans KeepT.set⟩
  rw [heap_store _ _ _ _ _ _ hl8, hc]
/-- Append of the group that was made of puts. -/
theorem app_step [Spare] {w0 w1 w2 : World} {base b f cn ep n : Nat} {M : DM} {L : LS} {P : Nat → PutD} {v : Value} (h : LSt w0 base b f cn ep M L w1) (hn : n ≤ 1000) (hL : L.S.loose.length + n < 1000000) (hf : f ≤ 1048576) (hcn : cn ≤ 1048576) (hnx : L.nx ≤ cn) (he1 : 1 ≤ ep) (he2 : ep ≤ 1099511627776)
    (l : Below w1.heap.size w1 w2) (hg : GrpR w1.heap.size w2 (L.S.size - 45) P n v) :
    Calls Try.prog 17 #[.pointer (some ⟨b, 0, none⟩), v] w2 fun e w' => e = .returned (.int .i64 (appT f cn ep L n P).1) ∧ LSt w0 base b f cn ep M (appT f cn ep L n P).2 w' ∧ KeepT b w2 w' := by
  obtain ⟨⟨v0, hO⟩, h2, h3⟩ := h
  have hO2 := hO.below l
  have hb1 := (Array.getElem?_eq_some_iff.1 h2).1
  have hb2 := (l.block b hb1).trans h2
  have hS := hO.d.hS
  rcases Nat.eq_zero_or_pos n with h0 | h0
  · subst h0
    obtain ⟨ls, _, hown, _⟩ := hg
    obtain ⟨A, c, rfl⟩ := own_sl hown
    have e : appR cn L 0 P = if L.dead = true then 21 else 1 := by unfold appR refuseI; rw [if_pos rfl]
    have e0 : appR cn L 0 P ≠ 0 := by rw [e]; split <;> omega
    rw [appT_no e0, e]
    refine (append_empty b f cn ep L.nx L.dead A c w2 base { M with vl := v0 } L.S hO2.d hb2 hcn hnx).mono ?_
    rintro e' w' ⟨rfl, l'⟩
    exact ⟨rfl, LSt.below ⟨⟨v0, hO2⟩, hb2, h3⟩ l', KeepT.below l'⟩
  · obtain ⟨g, c, A, rfl, hG⟩ := grp_of hO (by omega) h0 hn hg
    obtain ⟨a1, a2, a3, a4⟩ := hO2.d.apartR hb2 (by decide) (by decide) (by decide)
    refine (append_any b f cn ep L.nx L.dead g 0 n c (pX (L.S.size - 45) P A) w2 base { M with vl := v0 } L.S hO2.d hO2.le hL hb2 ⟨a1, a2, a3, a4⟩ hf hcn hnx he1 he2 hG).mono ?_
    intro e w' hap
    have eR : refuseI L.dead n (pX (L.S.size - 45) P A) ((L.S.size : Int) - 45) ((cn : Int) - L.nx) = appR cn L n P := rfl
    have eS : logSec L.S.size ep L.nx n (pX (L.S.size - 45) P A) = secL ep L n P := rfl
    unfold AppP at hap
    rw [eR, eS] at hap
    rcases hap with ⟨q0, rfl, l'⟩ | ⟨q0, w3, w8, I, l3, hw, he, hI⟩
    · rw [appT_no q0]
      exact ⟨rfl, LSt.below ⟨⟨v0, hO2⟩, hb2, h3⟩ l', KeepT.below l'⟩
    · have hb3 := (l3.block b (Array.getElem?_eq_some_iff.1 hb2).1).trans hb2
      have hO3 := hO2.below l3
      have hdead : L.dead = false := by
        cases hd : L.dead with
        | false => rfl
        | true => unfold appR refuseI at q0; rw [if_pos hd] at q0; omega
      rcases hw with ⟨k, hk, k1, k2, k3, kL⟩ | ⟨k1, k3, kL⟩
      · have hIk := ret_inj k3
        subst hIk
        rw [appT_at q0 hk k1 k2]
        rcases hI with ⟨h, _⟩ | ⟨_, rfl⟩
        · exact absurd h k2
        · obtain ⟨r1, r2⟩ := LSt.wrote (w := w2) (i := 5) (x := .bool true) (nx' := L.nx) (dead' := true) hO3 hb3 h3 kL (by simp [lgCells])
          exact ⟨he, r1, (KeepT.below l3).trans r2⟩
      · have hIk := ret_inj k3
        subst hIk
        rw [appT_all q0 k1]
        rcases hI with ⟨h, rfl⟩ | ⟨h, rfl⟩
        · obtain ⟨r1, r2⟩ := LSt.wrote (w := w2) (i := 4) (x := .int .i64 ((L.nx : Int) + n)) (nx' := L.nx + n) (dead' := false) hO3 hb3 h3 kL (by simp [lgCells, hdead])
          rw [if_pos h, h]
          rw [h] at he
          exact ⟨he, r1, (KeepT.below l3).trans r2⟩
        · obtain ⟨r1, r2⟩ := LSt.wrote (w := w2) (i := 5) (x := .bool true) (nx' := L.nx) (dead' := true) hO3 hb3 h3 kL (by simp [lgCells])
          rw [if_neg h, decide_eq_true h]
          exact ⟨he, r1, (KeepT.below l3).trans r2⟩
end Go.Proofs.Ytmikemijdglgaaa
/- A log over a disk: what Arm, Crash, Start, Dead, Left, Read do to it. -/
namespace Go.Proofs.Ytmikemijdglgaaa
open Go.RowKit
set_option linter.unusedVariables false
set_option linter.unusedSimpArgs false

theorem LSt.disk [Spare] {w0 w w' : World} {base b f cn ep : Nat} {M : DM} {L : LS} {v v' : Value} {S' : DS} (hO : On w0 base { M with vl := v } L.S w) (h2 : w.heap[b]? = some (.cells (lgCells M.p f cn ep L.nx L.dead) 85 (0, 0))) (h3 : base ≤ b)
    (d : Dsk w' base { M with vl := v' } S') (t : Turns base { M with vl := v } w w') : LSt w0 base b f cn ep M ⟨S', L.nx, L.dead⟩ w' ∧ KeepT b w w' := by
  obtain ⟨a1, a2, a3, a4⟩ := hO.d.apartR h2 (by decide) (by decide) (by decide)
  exact ⟨⟨⟨v', d, t.on hO, hO.z⟩, (t.block b (Array.getElem?_eq_some_iff.1 h2).1 a1 a2 a3 a4).trans h2, h3⟩, KeepT.turns hO.d t⟩
theorem lst_arm [Spare] {w0 w : World} {base b f cn ep : Nat} {M : DM} {L : LS} (n : Int) (h : LSt w0 base b f cn ep M L w) (hn : n ≤ 9223372036854775807) :
    Calls Try.prog 32 #[.pointer (some ⟨M.p, 0, none⟩), .int .i64 n] w fun e w' => e = .returned (.tuple #[]) ∧ LSt w0 base b f cn ep M ⟨armS L.S n, L.nx, L.dead⟩ w' ∧ KeepT b w w' := by
  obtain ⟨⟨v, hO⟩, h2, h3⟩ := h
  refine (arm_any n w base { M with vl := v } L.S hO.d hn).mono ?_
  rintro e w' ⟨rfl, d, t, _⟩
  exact ⟨rfl, LSt.disk hO h2 h3 d t⟩
theorem lst_crash [Spare] {w0 w : World} {base b f cn ep n c : Nat} {M : DM} {L : LS} {A : Option Addr} {fa : Nat → Int} (h : LSt w0 base b f cn ep M L w) (hI : Ints w0 A n fa) (hb : w0.heap.size ≤ base) :
    Calls Try.prog 33 #[.pointer (some ⟨M.p, 0, none⟩), .slice A n c] w fun e w' => e = .returned (.tuple #[]) ∧ LSt w0 base b f cn ep M ⟨crashS L.S fa n, L.nx, L.dead⟩ w' ∧ KeepT b w w' := by
  obtain ⟨⟨v, hO⟩, h2, h3⟩ := h
  refine (crash_any A n c fa w base { M with vl := v } L.S hO.d hO.le (hI.below hO.b hb) (hI.apart hb hO.d)).mono ?_
  rintro e w' ⟨rfl, d, t, _⟩
  exact ⟨rfl, LSt.disk hO h2 h3 d t⟩
theorem lst_dead [Spare] {w0 w : World} {base b f cn ep : Nat} {M : DM} {L : LS} (h : LSt w0 base b f cn ep M L w) :
    Calls Try.prog 21 #[.pointer (some ⟨b, 0, none⟩)] w fun e w' => e = .returned (.bool L.dead) ∧ w = w' := dead_any b M.p f cn ep L.nx L.dead w h.2.1
theorem lst_left [Spare] {w0 w : World} {base b f cn ep : Nat} {M : DM} {L : LS} (h : LSt w0 base b f cn ep M L w) (hcn : cn ≤ 1048576) (hnx : L.nx ≤ cn) :
    Calls Try.prog 20 #[.pointer (some ⟨b, 0, none⟩)] w fun e w' => e = .returned (.int .i64 ((cn : Int) - L.nx)) ∧ Below w.heap.size w w' := left_any b M.p f cn ep L.nx L.dead w h.2.1 (by omega) (by omega) (by omega) (by omega)
/-- Start of a log on a disk that is there. -/
theorem lst_start [Spare] {w0 w : World} {base f cn ep : Nat} {M : DM} {S : DS} (h : On w0 base M S w) (hf : f ≤ 1048576) (hc1 : 1 ≤ cn) (hc2 : cn ≤ 1048576) (hp : f + cn ≤ S.N) (he1 : 1 ≤ ep) (he2 : ep ≤ 1099511627776) :
    Calls Try.prog 11 #[.pointer (some ⟨M.p, 0, none⟩), .int .i64 f, .int .i64 cn, .int .i64 ep] w fun e w' => ∃ b, e = .returned (.tuple #[.pointer (some ⟨b, 0, none⟩), .int .i64 0]) ∧ LSt w0 base b f cn ep M ⟨S, 0, false⟩ w' ∧ Below w.heap.size w w' ∧ w.heap.size ≤ b := by
  refine (start_any f cn ep w base M S h.d (by omega) (by omega) (by omega)).mono ?_
  rintro e w' ⟨⟨_, _, b, hb, rfl, hl⟩ | ⟨h0, _⟩, l⟩
  · exact ⟨b, rfl, ⟨⟨M.vl, h.below l⟩, hl, Nat.le_trans h.le hb⟩, l, hb⟩
  · exact absurd ⟨⟨by omega, by omega, by omega, by omega⟩, by omega, by omega⟩ h0
theorem lst_read [Spare] {w0 w : World} {base b f cn ep : Nat} {M : DM} {L : LS} (f' cn' ep' : Nat) (h : LSt w0 base b f cn ep M L w) (hup : L.S.down = false) (hc1 : 1 ≤ cn') (hc2 : cn' ≤ 1048576) (hp : f' + cn' ≤ L.S.N) (he1 : 1 ≤ ep') (he2 : ep' ≤ 1099511627776) :
    Calls Try.prog 13 #[.pointer (some ⟨M.p, 0, none⟩), .int .i64 f', .int .i64 cn', .int .i64 ep'] w (ReadP L.S f' cn' ep' w) := by
  obtain ⟨⟨v, hO⟩, h2, h3⟩ := h
  exact read_at base f' cn' ep' { M with vl := v } L.S w hO.d hup ⟨by omega, by omega, by omega, by omega⟩ (decide_eq_true ⟨by omega, by omega⟩)

/-- A log that holds nothing: Read tells no group. -/
theorem read_none {S : DS} {first count epoch : Nat} {w w' : World} {e : Ending} (h : ReadP S first count epoch w e w') (h0 : ¬ chAt S first epoch 0) : ∃ A c, e = .returned (.tuple #[.slice A 0 c, .int .i64 0]) := by
  obtain ⟨⟨k, v, vs, X, hk, hch, hno, he, hown, hgr, hX⟩, hb⟩ := h
  have hk0 : k = 0 := by
    rcases Nat.eq_zero_or_pos k with h | h
    · exact h
    · exact absurd (hch 0 h) h0
  subst hk0
  obtain ⟨A, c, rfl⟩ := own_sl hown
  exact ⟨A, c, he⟩
theorem read_some {S : DS} {first count epoch : Nat} {w w' : World} {e : Ending} (h : ReadP S first count epoch w e w') : ∃ A k c, e = .returned (.tuple #[.slice A k c, .int .i64 0]) ∧ Below w.heap.size w w' := by
  obtain ⟨⟨k, v, vs, X, hk, hch, hno, he, hown, hgr, hX⟩, hb⟩ := h
  obtain ⟨A, c, rfl⟩ := own_sl hown
  exact ⟨A, _, c, he, hb⟩
theorem refuse_or (dead : Bool) (n : Nat) (X : Nat → ChD) (room left : Int) : refuseI dead n X room left = 21 ∨ refuseI dead n X room left = 1 ∨ refuseI dead n X room left = 3 ∨ refuseI dead n X room left = 6 ∨ refuseI dead n X room left = 0 := by
  unfold refuseI
  split
  · exact .inl rfl
  split
  · exact .inr (.inl rfl)
  split
  · exact .inr (.inl rfl)
  split
  · exact .inr (.inr (.inl rfl))
  split
  · exact .inr (.inr (.inr (.inl rfl)))
  · exact .inr (.inr (.inr (.inr rfl)))
/-! A disk that is up, and that nothing lets go down. -/
structure Up (S : DS) : Prop where
  d : S.down = false
  a : S.armed = 0
theorem Up.strike {S : DS} (h : Up S) : strikeS S = S := if_pos h.a
theorem Up.strikeI {S : DS} (h : Up S) : strikeI S = 0 := if_neg (by rw [h.a]; decide)
theorem Up.keep {S : DS} (h : Up S) (k : Nat) (F : Nat → Nat) : Up (keepS S k F) := ⟨h.d, h.a⟩
theorem Up.put {S : DS} (h : Up S) (a : Int) (n : Nat) (F : Nat → Nat) : Up (putS S a n F) := by
  unfold putS
  split
  · exact h
  · rw [(h.keep _ _).strike]; exact h.keep _ _
theorem Up.putI {S : DS} (h : Up S) {a : Nat} (ha : a < S.N) (F : Nat → Nat) : putI S a S.size F = 0 := by
  have e : reachI S (a : Int) = 0 := by
    unfold reachI
    rw [if_neg (by rw [h.d]; decide), if_neg (by omega)]
  unfold Go.Proofs.Ytmikemijdglgaaa.putI
  rw [if_neg (fun q => q e), if_neg (fun q => q rfl)]
  exact (h.keep _ _).strikeI
theorem Up.putS {S : DS} (h : Up S) {a : Nat} (ha : a < S.N) (F : Nat → Nat) : putS S a S.size F = keepS S a F := by
  have e : reachI S (a : Int) = 0 := by
    unfold reachI
    rw [if_neg (by rw [h.d]; decide), if_neg (by omega)]
  unfold Go.Proofs.Ytmikemijdglgaaa.putS
  rw [if_neg (fun q => q.elim (fun z => z e) fun z => z rfl), (h.keep _ _).strike]
  rfl
theorem Up.wr {S : DS} (h : Up S) (a sz : Nat) (sec : Nat → Nat → Nat) : ∀ k, Up (wrS a sz sec S k)
  | 0 => h
  | k + 1 => (Up.wr h a sz sec k).put _ _ _
theorem wrS_N (a sz : Nat) (sec : Nat → Nat → Nat) (S : DS) : ∀ k, (wrS a sz sec S k).N = S.N
  | 0 => rfl
  | k + 1 => by
    have := wrS_N a sz sec S k
    show (putS _ _ _ _).N = _
    unfold putS
    split
    · exact this
    · rw [strikeS_N]; exact this
theorem Up.wrI {S : DS} (h : Up S) (a : Nat) (sec : Nat → Nat → Nat) (k : Nat) (hk : a + k < S.N) : wrI a S.size sec S k = 0 := by
  unfold Go.Proofs.Ytmikemijdglgaaa.wrI
  have q := wrS_sz a S.size sec S k
  have := (h.wr a S.size sec k).putI (a := a + k) (by rw [wrS_N]; exact hk) (sec k)
  rw [q] at this
  exact this
theorem Up.flushI {S : DS} (h : Up S) : flushI S = 0 := by unfold Go.Proofs.Ytmikemijdglgaaa.flushI; rw [if_neg (by rw [h.d]; decide)]; exact h.strikeI
theorem Up.flush {S : DS} (h : Up S) : flushD S = { S with fast := fastTo S.fast S.loose, loose := [] } := by
  unfold flushD flushS
  rw [if_neg (by rw [h.d]; decide), h.strike, if_neg (by rw [h.strikeI]; decide)]
theorem Up.flushD {S : DS} (h : Up S) : Up (flushD S) := by rw [h.flush]; exact ⟨h.d, h.a⟩
theorem appR_zero {cn n : Nat} {L : LS} {P : Nat → PutD} (h : appR cn L n P = 0) (h45 : 45 ≤ L.S.size) : L.dead = false ∧ 1 ≤ n ∧ (∀ i, i < n → 0 ≤ (P i).page ∧ (P i).page ≤ 2147483647) ∧ (∀ i, i < n → putN (L.S.size - 45) (P i) = L.S.size - 45) ∧ L.nx + n ≤ cn := by
  obtain ⟨z1, z2, z3, z4, z5⟩ := refuse_zero h
  refine ⟨z1, z2, z3, fun i hi => ?_, by omega⟩
  have := z4 i hi
  show putN (L.S.size - 45) (P i) = _
  have e : ((putN (L.S.size - 45) (P i) : Nat) : Int) = (L.S.size : Int) - 45 := this
  omega
/-- Append on a disk that is up. -/
theorem appT_up {f cn ep n : Nat} {L : LS} {P : Nat → PutD} (h : Up L.S) (h45 : 45 ≤ L.S.size) (hN : f + cn ≤ L.S.N) (h0 : appR cn L n P = 0) :
    appT f cn ep L n P = (0, ⟨flushD (wrS (f + L.nx) L.S.size (secL ep L n P) L.S n), L.nx + n, false⟩) := by
  obtain ⟨z1, z2, z3, z4, z5⟩ := appR_zero h0 h45
  rw [appT_all h0 fun j hj => h.wrI _ _ _ (by omega), (h.wr _ _ _ _).flushI, if_pos rfl]
  rfl
theorem appT_keepsUp {f cn ep n : Nat} {L : LS} {P : Nat → PutD} (h : Up L.S) (h45 : 45 ≤ L.S.size) (hN : f + cn ≤ L.S.N) : Up (appT f cn ep L n P).2.S ∧ (appT f cn ep L n P).2.S.N = L.S.N ∧ (appT f cn ep L n P).2.S.size = L.S.size ∧ (L.nx ≤ cn → (appT f cn ep L n P).2.nx ≤ cn) ∧ (L.S.loose = [] → (appT f cn ep L n P).2.S.loose = []) := by
  by_cases h0 : appR cn L n P = 0
  · obtain ⟨z1, z2, z3, z4, z5⟩ := appR_zero h0 h45
    rw [appT_up h h45 hN h0]
    refine ⟨(h.wr _ _ _ _).flushD, ?_, ?_, fun _ => z5, fun _ => ?_⟩
    · show (flushD _).N = _
      rw [(h.wr _ _ _ _).flush]; exact wrS_N _ _ _ _ _
    · show (flushD _).size = _
      rw [(h.wr _ _ _ _).flush]; exact wrS_sz _ _ _ _ _
    · show (flushD _).loose = _
      rw [(h.wr _ _ _ _).flush]
  · rw [appT_no h0]; exact ⟨h, rfl, rfl, fun q => q, fun q => q⟩
end Go.Proofs.Ytmikemijdglgaaa
/- The document's changes in memory: rows of them, rows of rows; the document's Same. -/
namespace Go.Proofs.Ytmikemijdglgaaa
open Go.RowKit
set_option linter.unusedVariables false
set_option linter.unusedSimpArgs false

/-- A change of the document's: its page, its load. -/
abbrev Dc := Int × ByteArray
def dcCells (l : List Dc) : List Value := l.flatMap fun x => [.int .i64 x.1, .string x.2]
theorem dcCells_snoc (l : List Dc) (x : Dc) : dcCells (l ++ [x]) = dcCells l ++ [.int .i64 x.1, .string x.2] := by simp [dcCells]
theorem dcCells_at {l : List Dc} {j : Nat} {x : Dc} (h : l[j]? = some x) : (dcCells l)[j * 2]? = some (.int .i64 x.1) ∧ (dcCells l)[j * 2 + 1]? = some (.string x.2) := by
  induction l generalizing j with
  | nil => simp at h
  | cons y l ih =>
    unfold dcCells
    rw [List.flatMap_cons]
    match j with
    | 0 => simp at h; subst h; exact ⟨rfl, rfl⟩
    | j + 1 =>
      have q := ih (j := j) (by simpa using h)
      unfold dcCells at q
      refine ⟨?_, ?_⟩
      · rw [show (j + 1) * 2 = j * 2 + 2 by omega]; exact q.1
      · rw [show (j + 1) * 2 + 1 = (j * 2 + 1) + 2 by omega]; exact q.2
/-- A row of the document's changes that can be read; it lies among the blocks X. -/
def RD (X : Nat → Prop) (W : World) (v : Value) (l : List Dc) : Prop :=
  ∃ A c, v = .slice A l.length c ∧ l.length ≤ 1000000 ∧ (0 < l.length → ∃ b o, A = some ⟨b, o, none⟩ ∧ X b ∧ ∀ j x, l[j]? = some x → W.cell? ⟨b, o + j * 2, none⟩ = some (.int .i64 x.1) ∧ W.cell? ⟨b, o + j * 2 + 1, none⟩ = some (.string x.2))
/-- Rows of them. -/
def GD (X : Nat → Prop) (W : World) (v : Value) (gs : List (List Dc)) : Prop :=
  ∃ (A : Option Addr) (c : Nat) (vs : List Value), v = .slice A gs.length c ∧ vs.length = gs.length ∧ gs.length ≤ 1000000 ∧ (0 < gs.length → ∃ b o, A = some ⟨b, o, none⟩ ∧ ∀ (j : Nat) (u : Value), vs[j]? = some u → W.cell? ⟨b, o + j, none⟩ = some u) ∧
    ∀ (j : Nat) (u : Value) (l : List Dc), vs[j]? = some u → gs[j]? = some l → RD X W u l
theorem RD.keep {X X' : Nat → Prop} {W W' : World} {v : Value} {l : List Dc} (h : RD X W v l) (k : KeepX X W W') (hX : ∀ b, X b → X' b) : RD X' W' v l := by
  obtain ⟨A, c, e, h1, h2⟩ := h
  refine ⟨A, c, e, h1, fun h0 => ?_⟩
  obtain ⟨b, o, e2, h3, h4⟩ := h2 h0
  exact ⟨b, o, e2, hX b h3, fun j x hx => ⟨k b _ _ h3 (h4 j x hx).1, k b _ _ h3 (h4 j x hx).2⟩⟩
theorem RD.below {X : Nat → Prop} {W W' : World} {v : Value} {l : List Dc} (h : RD X W v l) (k : Below W.heap.size W W') : RD X W' v l := by
  obtain ⟨A, c, e, h1, h2⟩ := h
  refine ⟨A, c, e, h1, fun h0 => ?_⟩
  obtain ⟨b, o, e2, h3, h4⟩ := h2 h0
  exact ⟨b, o, e2, h3, fun j x hx => ⟨kept_l k (cell_lt' (h4 j x hx).1) (h4 j x hx).1, kept_l k (cell_lt' (h4 j x hx).2) (h4 j x hx).2⟩⟩
theorem GD.below {X : Nat → Prop} {W W' : World} {v : Value} {gs : List (List Dc)} (h : GD X W v gs) (k : Below W.heap.size W W') : GD X W' v gs := by
  obtain ⟨A, c, vs, e, h1, h2, h3, h4⟩ := h
  refine ⟨A, c, vs, e, h1, h2, fun h0 => ?_, fun j u l a b => (h4 j u l a b).below k⟩
  obtain ⟨b, o, e2, h5⟩ := h3 h0
  exact ⟨b, o, e2, fun j u hu => kept_l k (cell_lt' (h5 j u hu)) (h5 j u hu)⟩
/-- One row of them. -/
theorem GD.at_ {X : Nat → Prop} {W : World} {v : Value} {gs : List (List Dc)} (h : GD X W v gs) {i : Nat} (hi : i < gs.length) : ∃ b o A c l, (∃ c0, v = .slice (some ⟨b, o, none⟩) gs.length c0) ∧ gs[i]? = some l ∧ W.cell? ⟨b, o + i, none⟩ = some (.slice A l.length c) ∧ RD X W (.slice A l.length c) l := by
  obtain ⟨A, c, vs, e, h1, h2, h3, h4⟩ := h
  obtain ⟨b, o, rfl, h5⟩ := h3 (by omega)
  have hv : vs[i]? = some (vs[i]'(by omega)) := List.getElem?_eq_getElem _
  have hg : gs[i]? = some (gs[i]'hi) := List.getElem?_eq_getElem _
  have hr := h4 i _ _ hv hg
  obtain ⟨A', c', e', _⟩ := hr
  refine ⟨b, o, A', c', gs[i], ⟨c, e⟩, hg, ?_, ?_⟩
  · rw [← e']; exact h5 i _ hv
  · rw [← e']; exact h4 i _ _ hv hg
theorem dcFields : (Try.prog.fieldsOf 47).toList.map (fun f => (f.name, f.type, f.offset)) = [("Page", 3, 0), ("Load", 9, 1)] := by kernel_rfl
theorem run_eqDc (w : World) (p q : Int) (a b : ByteArray) : (Op.equalIn 10000 47 (.agg #[.int .i64 p, .string a]) (.agg #[.int .i64 q, .string b])).run Try.prog w = .ok (p == q && a.toList == b.toList) w := by
  rw [run_equalIn_agg w 9999 47 _ _ (by kernel_rfl) (by kernel_rfl)]
  have h := dcFields
  generalize (Try.prog.fieldsOf 47).toList = fs at h ⊢
  have hl := congrArg List.length h
  simp only [List.length_map, List.length_cons, List.length_nil] at hl
  obtain ⟨f, g, rfl⟩ : ∃ f g, fs = [f, g] := by
    rcases fs with _ | ⟨f, _ | ⟨g, _ | ⟨k, r⟩⟩⟩
    · simp at hl
    · simp at hl
    · exact ⟨f, g, rfl⟩
    · simp at hl
  · simp only [List.map_cons, List.map_nil, List.cons.injEq, Prod.mk.injEq, and_true] at h
    obtain ⟨⟨h1, h2, h3⟩, h4, h5, h6⟩ := h
    have p1 : (part 3 #[.int .i64 p, .string a] 0).run Try.prog w = .ok (.int .i64 p) w := by kernel_rfl
    have p2 : (part 3 #[.int .i64 q, .string b] 0).run Try.prog w = .ok (.int .i64 q) w := by kernel_rfl
    have p3 : (part 9 #[.int .i64 p, .string a] 1).run Try.prog w = .ok (.string a) w := by kernel_rfl
    have p4 : (part 9 #[.int .i64 q, .string b] 1).run Try.prog w = .ok (.string b) w := by kernel_rfl
    have e1 := run_equalIn_int w 9998 3 .i64 .i64 p q (P := Try.prog) Try.underlying3
    have e2 := run_equalIn_string w 9998 9 a b (P := Try.prog) Try.underlying9
    unfold Op.eqFields Op.eqFields Op.eqFields
    rw [h1, h2, h3, h4, h5, h6]
    cases hq : p == q <;> cases hr : a.toList == b.toList <;> simp [p1, p2, p3, p4, e1, e2, hq, hr, Sem.run_bind, Sem.run_ite, Result.andThen_ok]
theorem run_neqDc (w : World) (p q : Int) (a b : ByteArray) : (binOp .neq 47 (.agg #[.int .i64 p, .string a]) (.agg #[.int .i64 q, .string b])).run Try.prog w = .ok (.bool (!(p == q && a.toList == b.toList))) w := by
  rw [run_neq_struct, run_eqDc]
  rfl
def Sm (ga gb : List (List Dc)) : Bool := decide (ga = gb)
theorem GD.len {X : Nat → Prop} {W : World} {v : Value} {gs : List (List Dc)} (h : GD X W v gs) : ∃ A c, v = .slice A gs.length c ∧ gs.length ≤ 1000000 := by
  obtain ⟨A, c, vs, e, h1, h2, _⟩ := h
  exact ⟨A, c, e, h2⟩
attribute [local go_sem 1100] run_neqDc
set_option maxRecDepth 100000 in
set_option maxHeartbeats 8000000 in
theorem refSame_any (X Y : Nat → Prop) (va vb : Value) (ga gb : List (List Dc)) (w : World) (ha : GD X w va ga) (hb : GD Y w vb gb) :
    Calls Try.prog 46 #[va, vb] w fun e w' => e = .returned (.bool (Sm ga gb)) ∧ Below w.heap.size w w' := by
  obtain ⟨Aa, ca, rfl, hla⟩ := ha.len
  obtain ⟨Ab, cb, rfl, hlb⟩ := hb.len
  have HA := Lib.hid ha
  have HB := Lib.hid hb
  clear ha hb
  obtain ⟨n, hn⟩ : ∃ n, n = ga.length := ⟨_, rfl⟩
  obtain ⟨n2, hn2⟩ : ∃ n, n = gb.length := ⟨_, rfl⟩
  have HN := Lib.hid (And.intro hn hn2)
  rw [← hn] at hla ⊢
  rw [← hn2] at hlb ⊢
  clear hn hn2
  by_cases he : n = n2
  case neg =>
    have hq : ((n : Int) != (n2 : Int)) = true := by simp; omega
    have R := Lib.hid (show Sm ga gb = false from decide_eq_false fun e => he (by rw [HN.out.1, HN.out.2, e]))
    clear he
    go_enter Try.func46, Try.ntmps46
    go_wp2
    go_ret
    exact ⟨by rw [R.out]; rfl, Below.refl _ _⟩
  subst he
  go_enter Try.func46, Try.ntmps46
  go_wp2
  go_loopw [5] (fun i wr => (∃ k : Nat, k ≤ n ∧ i = .int .i64 k ∧ ∀ j, j < k → ga[j]? = gb[j]?) ∧ Below w.heap.size w wr) (fun i _ => n - (intOf i).toNat)
  case atStart => exact ⟨⟨0, Nat.zero_le _, rfl, fun j hj => absurd hj (by omega)⟩, Below.refl _ _⟩
  case round =>
    obtain ⟨⟨k, hk, rfl, hall⟩, hbl⟩ := hrel
    obtain ⟨wo, hwo⟩ : ∃ wo, wo = wr := ⟨_, rfl⟩
    subst hwo
    have HL := Lib.hid hbl
    have HAll := Lib.hid hall
    clear hbl hall
    by_cases hlt : k < n
    · have GA := Lib.hid (HA.out.below HL.out)
      have GB := Lib.hid (HB.out.below HL.out)
      obtain ⟨b1, o1, A1, c1, l1, ⟨z1, e1⟩, g1, k1, r1⟩ := GA.out.at_ (i := k) (by rw [← HN.out.1]; exact hlt)
      obtain ⟨b2, o2, A2, c2, l2, ⟨z2, e2⟩, g2, k2, r2⟩ := GB.out.at_ (i := k) (by rw [← HN.out.2]; exact hlt)
      injection e1 with e1 e3 e4
      injection e2 with e2 e5 e6
      subst e1 e2 e4 e6
      clear e3 e5
      have HG1 := Lib.hid g1
      have HG2 := Lib.hid g2
      have HR1 := Lib.hid r1
      have HR2 := Lib.hid r2
      obtain ⟨m1, hm1⟩ : ∃ m, m = l1.length := ⟨_, rfl⟩
      obtain ⟨m2, hm2⟩ : ∃ m, m = l2.length := ⟨_, rfl⟩
      have hb1 : m1 ≤ 1000000 := by obtain ⟨_, _, _, h, _⟩ := r1; omega
      have hb2 : m2 ≤ 1000000 := by obtain ⟨_, _, _, h, _⟩ := r2; omega
      rw [← hm1] at k1
      rw [← hm2] at k2
      have HM := Lib.hid (And.intro hm1 hm2)
      clear g1 g2 r1 r2 hm1 hm2
      have KS := Lib.hid (show ∀ W, Below wo.heap.size wo W → W.cell? ⟨b1, o1 + k, none⟩ = some (.slice A1 m1 c1) ∧ W.cell? ⟨b2, o2 + k, none⟩ = some (.slice A2 m2 c2) from fun W l => ⟨kept_l l (cell_lt' k1) k1, kept_l l (cell_lt' k2) k2⟩)
      by_cases hm : m1 = m2
      case neg =>
        have hq : ((m1 : Int) != (m2 : Int)) = true := by simp; omega
        have R := Lib.hid (show Sm ga gb = false from decide_eq_false fun e => hm (by
          have q1 := HG1.out
          rw [e, HG2.out] at q1
          injection q1 with q1
          rw [HM.out.1, HM.out.2, q1]))
        clear hm
        go_wp2
        go_quiet (fail)
        all_goals
          go_wp2
          go_ret
          exact ⟨by rw [R.out]; rfl, below_drewN HL.out _⟩
      subst hm
      have hq : ((m1 : Int) != (m1 : Int)) = false := by simp
      go_wp2
      go_quiet (fail)
      all_goals
        go_wp2
        go_loopw [6] (fun u W => (∃ j : Nat, j ≤ m1 ∧ u = .int .i64 j ∧ ∀ i, i < j → l1[i]? = l2[i]?) ∧ Below w.heap.size w W ∧ Below wo.heap.size wo W) (fun u _ => m1 - (intOf u).toNat)
        case atStart => exact ⟨⟨0, Nat.zero_le _, rfl, fun i hi => absurd hi (by omega)⟩, below_drewN HL.out _, below_drewN (Below.refl _ _) _⟩
        case round =>
          obtain ⟨⟨j, hj, rfl, hin⟩, hb1', hb2'⟩ := hrel
          have HIn := Lib.hid hin
          have HB1 := Lib.hid hb1'
          have HB2 := Lib.hid hb2'
          clear hin hb1' hb2'
          obtain ⟨q1, q2⟩ := KS.out _ HB2.out
          by_cases hjl : j < m1
          · obtain ⟨A1', c1', e1', _, h1'⟩ := HR1.out.below HB2.out
            obtain ⟨A2', c2', e2', _, h2'⟩ := HR2.out.below HB2.out
            injection e1' with e1' e3 e4
            injection e2' with e2' e5 e6
            subst e1' e2' e4 e6
            clear e3 e5
            obtain ⟨d1, p1, rfl, _, f1⟩ := h1' (by have := HM.out.1; omega)
            obtain ⟨d2, p2, rfl, _, f2⟩ := h2' (by have := HM.out.2; omega)
            obtain ⟨x, hx⟩ : ∃ x, l1[j]? = some x := ⟨_, List.getElem?_eq_getElem (by have := HM.out.1; omega)⟩
            obtain ⟨y, hy⟩ : ∃ y, l2[j]? = some y := ⟨_, List.getElem?_eq_getElem (by have := HM.out.2; omega)⟩
            obtain ⟨v0, v1⟩ := f1 j x hx
            obtain ⟨u0, u1⟩ := f2 j y hy
            have HX := Lib.hid (And.intro hx hy)
            clear f1 f2 hx hy h1' h2'
            obtain ⟨xp, xs⟩ := x
            obtain ⟨yp, ys⟩ := y
            dsimp only at v0 v1 u0 u1
            cases hc : (xp == yp && xs.toList == ys.toList)
            case true =>
              have HE := Lib.hid (show l1[j]? = l2[j]? by
                rw [HX.out.1, HX.out.2]
                simp only [Bool.and_eq_true, beq_iff_eq] at hc
                rw [hc.1, show xs = ys from by
                  have := hc.2
                  rw [ByteArray.toList_eq, ByteArray.toList_eq] at this
                  obtain ⟨⟨a⟩⟩ := xs
                  obtain ⟨⟨b⟩⟩ := ys
                  simpa using this])
              go_wp2
              go_quiet (fail)
              all_goals
                go_wp2
                go_roundw
                case rel =>
                  exact ⟨⟨j + 1, by omega, by go_num, fun i hi => by
                    rcases Nat.lt_or_ge i j with h | h
                    · exact HIn.out i h
                    · obtain rfl : i = j := by omega
                      exact HE.out⟩, below_drewN HB1.out _, below_drewN HB2.out _⟩
                case measure => simp [intOf]; omega
            case false =>
              have R := Lib.hid (show Sm ga gb = false from decide_eq_false fun e => by
                have q1 := HG1.out
                rw [e, HG2.out] at q1
                injection q1 with q1
                have q2 := HX.out.1
                rw [← q1, HX.out.2] at q2
                injection q2 with q2
                injection q2 with q3 q4
                rw [q3, q4] at hc
                simp at hc)
              go_wp2
              go_quiet (fail)
              all_goals
                go_wp2
                go_ret
                exact ⟨by rw [R.out]; rfl, below_drewN HB1.out _⟩
          · obtain rfl : j = m1 := by omega
            have HE := Lib.hid (show ga[k]? = gb[k]? by
              rw [HG1.out, HG2.out]
              congr 1
              apply List.ext_getElem?
              intro i
              rcases Nat.lt_or_ge i j with h | h
              · exact HIn.out i h
              · rw [List.getElem?_eq_none (by have := HM.out.1; omega), List.getElem?_eq_none (by have := HM.out.2; omega)])
            go_wp2
            go_roundw
            case rel =>
              exact ⟨⟨k + 1, by omega, by go_num, fun i hi => by
                rcases Nat.lt_or_ge i k with h | h
                · exact HAll.out i h
                · obtain rfl : i = k := by omega
                  exact HE.out⟩, HB1.out⟩
            case measure => simp [intOf]; omega
    · obtain rfl : k = n := by omega
      have R := Lib.hid (show Sm ga gb = true from decide_eq_true (by
        apply List.ext_getElem?
        intro i
        rcases Nat.lt_or_ge i k with h | h
        · exact HAll.out i h
        · rw [List.getElem?_eq_none (by have := HN.out.1; omega), List.getElem?_eq_none (by have := HN.out.2; omega)]))
      go_wp2
      go_ret
      exact ⟨by rw [R.out]; rfl, HL.out⟩
end Go.Proofs.Ytmikemijdglgaaa
/- The document's groups while a law gathers them. -/
namespace Go.Proofs.Ytmikemijdglgaaa
open Go.RowKit
set_option linter.unusedVariables false
set_option linter.unusedSimpArgs false

theorem own_blockeq {W W' : World} {base e size n : Nat} {v : Value} {xs : List Value} (h : W.ownsRow base e size v n xs) (k : ∀ (q : Nat) (cs : Array Value), v.ownBlock = some q → W.heap[q]? = some (.cells cs e (0, 0)) → W'.heap[q]? = some (.cells cs e (0, 0))) : W'.ownsRow base e size v n xs := by
  refine ⟨h.1, ?_⟩
  rcases h.2 with h | ⟨g, cap, cur, h1, h2, h3, h4⟩
  · exact .inl h
  · exact .inr ⟨g, cap, cur, h1, h2, k g cur (by rw [h1]; rfl) h3, h4⟩
theorem own_typed {W : World} {base e size n q : Nat} {v : Value} {xs : List Value} (h : W.ownsRow base e size v n xs) (hq : v.ownBlock = some q) : base ≤ q ∧ ∃ cs, W.heap[q]? = some (.cells cs e (0, 0)) := by
  rcases h.2 with ⟨h, _⟩ | ⟨g, cap, cur, h1, h2, h3, h4⟩
  · rw [h] at hq; cases hq
  · rw [h1] at hq
    injection hq with hq
    subst hq
    exact ⟨h2, cur, h3⟩
theorem own_same {W : World} {base e size n : Nat} {v : Value} {xs ys : List Value} (h : W.ownsRow base e size v n xs) (k : W.ownsRow base e size v n ys) : xs = ys := by
  rcases h.2 with ⟨h1, h2⟩ | ⟨g, cap, cur, h1, _, h3, _, _, _, h7⟩
  · have a := h.1
    have b := k.1
    rw [h2, Nat.zero_mul] at a b
    rw [List.eq_nil_of_length_eq_zero a, List.eq_nil_of_length_eq_zero b]
  · rcases k.2 with ⟨k1, _⟩ | ⟨g', cap', cur', k1, _, k3, _, _, _, k7⟩
    · rw [h1] at k1; cases k1
    · rw [h1] at k1
      injection k1 with k1
      injection k1 with k1
      injection k1 with k1
      subst k1
      rw [h3] at k3
      injection k3 with k3
      injection k3 with k3
      subst k3
      rw [← h7, k7]
/-- Groups that are whole, and the one that is not; X: the blocks of those that are whole. -/
def GBP (n0 : Nat) (gs : List (List Dc)) (g : List Dc) (X : Nat → Prop) (vG vg : Value) (vs : List Value) (W : World) : Prop :=
  W.ownsRow n0 45 1 vG gs.length vs ∧ (∀ (j : Nat) (u : Value) (l : List Dc), vs[j]? = some u → gs[j]? = some l → RD X W u l) ∧ W.ownsRow n0 47 2 vg g.length (dcCells g) ∧
    (∀ b, X b → n0 ≤ b ∧ (∃ cs, W.heap[b]? = some (.cells cs 47 (0, 0))) ∧ some b ≠ vg.ownBlock) ∧ gs.length ≤ 1000000 ∧ g.length ≤ 1000000
def GB (n0 : Nat) (gs : List (List Dc)) (g : List Dc) (vG vg : Value) (W : World) : Prop := ∃ X vs, GBP n0 gs g X vG vg vs W
theorem GB.nil (n0 : Nat) (W : World) : GB n0 [] [] (.slice none 0 0) (.slice none 0 0) W :=
  ⟨fun _ => False, [], World.ownsRow_nil _ _ _ _, fun j u l a => by simp at a, World.ownsRow_nil _ _ _ _, fun b h => h.elim, by simp, by simp⟩
/-- What keeps blocks of rows keeps them. -/
theorem GBP.kept {n0 : Nat} {gs : List (List Dc)} {g : List Dc} {X : Nat → Prop} {vG vg : Value} {vs : List Value} {W W' : World} (h : GBP n0 gs g X vG vg vs W)
    (k1 : ∀ (q : Nat) (cs : Array Value), W.heap[q]? = some (.cells cs 45 (0, 0)) → W'.heap[q]? = some (.cells cs 45 (0, 0)))
    (k2 : ∀ (q : Nat) (cs : Array Value), W.heap[q]? = some (.cells cs 47 (0, 0)) → W'.heap[q]? = some (.cells cs 47 (0, 0))) : GBP n0 gs g X vG vg vs W' := by
  obtain ⟨h1, h2, h3, h4, h5, h6⟩ := h
  refine ⟨own_blockeq h1 fun q cs _ e => k1 q cs e, fun j u l a b => (h2 j u l a b).keep (KeepX.heap fun b hb => ?_) fun _ x => x, own_blockeq h3 fun q cs _ e => k2 q cs e, fun b hb => ⟨(h4 b hb).1, ?_, (h4 b hb).2.2⟩, h5, h6⟩
  · obtain ⟨cs, e⟩ := (h4 b hb).2.1
    rw [e, k2 b cs e]
  · obtain ⟨cs, e⟩ := (h4 b hb).2.1
    exact ⟨cs, k2 b cs e⟩
theorem GB.kept {n0 : Nat} {gs : List (List Dc)} {g : List Dc} {vG vg : Value} {W W' : World} (h : GB n0 gs g vG vg W)
    (k1 : ∀ (q : Nat) (cs : Array Value), W.heap[q]? = some (.cells cs 45 (0, 0)) → W'.heap[q]? = some (.cells cs 45 (0, 0)))
    (k2 : ∀ (q : Nat) (cs : Array Value), W.heap[q]? = some (.cells cs 47 (0, 0)) → W'.heap[q]? = some (.cells cs 47 (0, 0))) : GB n0 gs g vG vg W' := by
  obtain ⟨X, vs, h⟩ := h
  exact ⟨X, vs, h.kept k1 k2⟩
theorem GB.below {n0 : Nat} {gs : List (List Dc)} {g : List Dc} {vG vg : Value} {W W' : World} (h : GB n0 gs g vG vg W) (l : Below W.heap.size W W') : GB n0 gs g vG vg W' :=
  h.kept (fun q cs e => (l.block q (Array.getElem?_eq_some_iff.1 e).1).trans e) (fun q cs e => (l.block q (Array.getElem?_eq_some_iff.1 e).1).trans e)
theorem GB.keepT {n0 b : Nat} {gs : List (List Dc)} {g : List Dc} {vG vg : Value} {W W' : World} (h : GB n0 gs g vG vg W) (hb : ∃ cs, W.heap[b]? = some (.cells cs 85 (0, 0))) (l : KeepT b W W') : GB n0 gs g vG vg W' := by
  obtain ⟨ds, hb⟩ := hb
  exact h.kept (fun q cs e => l q cs _ e (type_ne e hb (by decide)) (by decide) (by decide) (by decide)) (fun q cs e => l q cs _ e (type_ne e hb (by decide)) (by decide) (by decide) (by decide))
theorem GB.push {n0 : Nat} {gs : List (List Dc)} {g : List Dc} {vG vg v2 : Value} {W W' : World} {x : Dc} (h : GB n0 gs g vG vg W) (hg : g.length < 1000000)
    (hown : W'.ownsRow n0 47 2 v2 (g.length + 1) (dcCells g ++ [.int .i64 x.1, .string x.2])) (hgr : W.grownBy W' vg.ownBlock) (hat : v2.ownBlock = vg.ownBlock ∨ v2.ownBlock = some W.heap.size) : GB n0 gs (g ++ [x]) vG v2 W' := by
  obtain ⟨X, vs, h1, h2, h3, h4, h5, h6⟩ := h
  have lt : ∀ {q : Nat} {o : Obj}, W.heap[q]? = some o → q < W.heap.size := fun e => (Array.getElem?_eq_some_iff.1 e).1
  refine ⟨X, vs, own_blockeq h1 fun q cs hq e => (hgr.block q (lt e) fun e2 => ?_).trans e, fun j u l a b => (h2 j u l a b).keep (KeepX.heap fun b hb => ?_) fun _ x => x, by rw [dcCells_snoc, List.length_append]; exact hown, fun b hb => ⟨(h4 b hb).1, ?_, fun e2 => ?_⟩, h5, by simp; omega⟩
  · obtain ⟨_, ds, hd⟩ := own_typed h3 e2.symm
    exact type_ne e hd (by decide) rfl
  · obtain ⟨cs, e⟩ := (h4 b hb).2.1
    exact hgr.block b (lt e) (h4 b hb).2.2
  · obtain ⟨cs, e⟩ := (h4 b hb).2.1
    exact ⟨cs, (hgr.block b (lt e) (h4 b hb).2.2).trans e⟩
  · rcases hat with q | q
    · exact (h4 b hb).2.2 (e2.trans q)
    · rw [q] at e2
      injection e2 with e2
      obtain ⟨cs, e⟩ := (h4 b hb).2.1
      have := lt e
      omega
theorem RD.own {n0 : Nat} {W : World} {v : Value} {l : List Dc} (h : W.ownsRow n0 47 2 v l.length (dcCells l)) (hl : l.length ≤ 1000000) : RD (fun b => some b = v.ownBlock) W v l := by
  have h0 := h
  rcases h.2 with ⟨rfl, e⟩ | ⟨g, cap, cur, rfl, _⟩
  · exact ⟨none, 0, by rw [e], hl, fun h => absurd h (by omega)⟩
  · refine ⟨some ⟨g, 0, none⟩, cap, rfl, hl, fun _ => ⟨g, 0, rfl, rfl, fun j x hx => ?_⟩⟩
    have hj : j < l.length := (List.getElem?_eq_some_iff.1 hx).1
    obtain ⟨a1, a2⟩ := dcCells_at hx
    have d : ∀ j, j < l.length * 2 → W.cell? ⟨g, j, none⟩ = (dcCells l)[j]? := fun j hj => World.ownsRow.cellAt (w := W) (base := n0) (e := 47) (size := 2) h0 j hj
    rw [Nat.zero_add]
    exact ⟨(d _ (by omega)).trans a1, (d _ (by omega)).trans a2⟩
theorem GB.close {n0 : Nat} {gs : List (List Dc)} {g : List Dc} {vG vg v2 : Value} {W W' : World} (h : GB n0 gs g vG vg W) (hgs : gs.length < 1000000)
    (hown : ∀ vs, W.ownsRow n0 45 1 vG gs.length vs → W'.ownsRow n0 45 1 v2 (gs.length + 1) (vs ++ [vg])) (hgr : W.grownBy W' vG.ownBlock) : GB n0 (gs ++ [g]) [] v2 (.slice none 0 0) W' := by
  obtain ⟨X, vs, h1, h2, h3, h4, h5, h6⟩ := h
  have lt : ∀ {q : Nat} {o : Obj}, W.heap[q]? = some o → q < W.heap.size := fun e => (Array.getElem?_eq_some_iff.1 e).1
  have kc : ∀ (q : Nat) (cs : Array Value), W.heap[q]? = some (.cells cs 47 (0, 0)) → W'.heap[q]? = some (.cells cs 47 (0, 0)) := fun q cs e => (hgr.block q (lt e) fun e2 => by
    obtain ⟨_, ds, hd⟩ := own_typed h1 e2.symm
    exact type_ne e hd (by decide) rfl).trans e
  have hlen : vs.length = gs.length := by have := h1.1; omega
  have hX : ∀ b, (X b ∨ some b = vg.ownBlock) → n0 ≤ b ∧ ∃ cs, W.heap[b]? = some (.cells cs 47 (0, 0)) := fun b hb => by
    rcases hb with hb | hb
    · exact ⟨(h4 b hb).1, (h4 b hb).2.1⟩
    · exact own_typed h3 hb.symm
  have hk : KeepX (fun b => X b ∨ some b = vg.ownBlock) W W' := KeepX.heap fun b hb => by
    obtain ⟨_, cs, e⟩ := hX b hb
    rw [e, kc b cs e]
  refine ⟨fun b => X b ∨ some b = vg.ownBlock, vs ++ [vg], by rw [List.length_append]; exact hown vs h1, fun j u l a b => ?_, World.ownsRow_nil _ _ _ _, fun b hb => ⟨(hX b hb).1, ?_, by simp [Value.ownBlock]⟩, by simp; omega, by simp⟩
  · by_cases hj : j < gs.length
    · rw [List.getElem?_append_left (by omega)] at a
      rw [List.getElem?_append_left hj] at b
      exact ((h2 j u l a b).keep (X' := fun b => X b ∨ some b = vg.ownBlock) (fun b o v hb hv => hv) fun _ x => .inl x).keep hk fun _ x => x
    · rw [List.getElem?_append_right (by omega)] at a
      rw [List.getElem?_append_right (by omega)] at b
      match hq : j - gs.length with
      | 0 =>
        rw [show j - vs.length = 0 by omega] at a
        rw [hq] at b
        simp at a b
        subst a b
        exact ((RD.own h3 h6).keep (X' := fun b => X b ∨ some b = vg.ownBlock) (fun b o v hb hv => hv) fun _ x => .inr x).keep hk fun _ x => x
      | q + 1 => rw [hq] at b; simp at b
  · obtain ⟨_, cs, e⟩ := hX b hb
    exact ⟨cs, kc b cs e⟩
theorem GB.gd {n0 : Nat} {gs : List (List Dc)} {g : List Dc} {vG vg : Value} {W : World} (h : GB n0 gs g vG vg W) : ∃ X, GD X W vG gs := by
  obtain ⟨X, vs, h1, h2, h3, h4, h5, h6⟩ := h
  have h0 := h1
  have hlen : vs.length = gs.length := by have := h1.1; omega
  refine ⟨X, ?_⟩
  rcases h1.2 with ⟨rfl, e⟩ | ⟨q, cap, cur, rfl, _⟩
  · exact ⟨none, 0, vs, by rw [e], hlen, h5, fun h => absurd h (by omega), h2⟩
  · exact ⟨some ⟨q, 0, none⟩, cap, vs, rfl, hlen, h5, fun _ => ⟨q, 0, rfl, fun j u hu => by
      rw [Nat.zero_add, ← hu]
      exact World.ownsRow.cellAt (w := W) (base := n0) (e := 45) (size := 1) h0 j (by have := (List.getElem?_eq_some_iff.1 hu).1; omega)⟩, h2⟩
theorem GB.len {n0 : Nat} {gs : List (List Dc)} {g : List Dc} {vG vg : Value} {W : World} (h : GB n0 gs g vG vg W) : (∃ A c, vG = .slice A gs.length c) ∧ (∃ A c, vg = .slice A g.length c) ∧ gs.length ≤ 1000000 ∧ g.length ≤ 1000000 := by
  obtain ⟨X, vs, h1, h2, h3, h4, h5, h6⟩ := h
  exact ⟨own_sl h1, own_sl h3, h5, h6⟩
theorem GB.own {n0 : Nat} {gs : List (List Dc)} {g : List Dc} {vG vg : Value} {W : World} (h : GB n0 gs g vG vg W) : (∃ vs, W.ownsRow n0 45 1 vG gs.length vs) ∧ W.ownsRow n0 47 2 vg g.length (dcCells g) := by
  obtain ⟨X, vs, h1, h2, h3, h4, h5, h6⟩ := h
  exact ⟨⟨vs, h1⟩, h3⟩
/-- The group that is not whole is let go. -/
theorem GB.drop {n0 : Nat} {gs : List (List Dc)} {g : List Dc} {vG vg : Value} {W : World} (h : GB n0 gs g vG vg W) : GB n0 gs [] vG (.slice none 0 0) W := by
  obtain ⟨X, vs, h1, h2, h3, h4, h5, h6⟩ := h
  exact ⟨X, vs, h1, h2, World.ownsRow_nil _ _ _ _, fun b hb => ⟨(h4 b hb).1, (h4 b hb).2.1, by simp [Value.ownBlock]⟩, h5, by simp⟩
theorem GB.one {n0 : Nat} {gs : List (List Dc)} {g : List Dc} {vG vg : Value} {W : World} (h : GB n0 gs g vG vg W) {vs : List Value} (ho : W.ownsRow n0 45 1 vG gs.length vs) : ∀ u ∈ vs, u.oneCell' = true := fun u hu => by
  obtain ⟨X, vs', h1, h2, _⟩ := h
  obtain rfl : vs = vs' := own_same ho h1
  obtain ⟨j, hj, rfl⟩ := List.mem_iff_getElem.1 hu
  have hl := h1.1
  obtain ⟨A, c, e, _⟩ := h2 j _ _ (List.getElem?_eq_getElem hj) (List.getElem?_eq_getElem (by omega))
  rw [e]
  rfl
theorem infoDc : (Try.prog.info? 47).map (fun i => (i.zero, i.size, i.bytes)) = some (some (.agg #[.int .i64 0, .string ByteArray.empty]), 2, 24) := by kernel_rfl
theorem infoDcs : (Try.prog.info? 45).map (fun i => (i.zero, i.size, i.bytes)) = some (some (.slice none 0 0), 1, 24) := by kernel_rfl
/-- append of one of the document's changes, as a step of a region that draws its order. -/
theorem step_append_dc {P : Program} {ops : Array Oper} {o : Oper} {a : Act} {w : World} {K : Act → World → Prop} {Q : Exit → Act → World → Prop} {E : Prop} (hw : Region.wanted o (yielded ops a.tmps) = true) (s x : Operand) (t : TypeId)
    (ho : o.op = .call { callee := .builtin .append, args := #[s, x], argTypes := #[t, t] }) (ht : P.underlying t = some (.slice 47))
    (hinfo : (P.info? 47).map (fun i => (i.zero, i.size, i.bytes)) = some (some (.agg #[.int .i64 0, .string ByteArray.empty]), 2, 24))
    (base : Nat) (v : Value) (n : Nat) (xs : List Value) (hs : a.eval s = v) (hown : w.ownsRow base 47 2 v n xs) (ad : Addr) (p q : Value) (hx : a.eval x = .slice (some ad) 1 1) (hp : p.oneCell' = true) (hq : q.oneCell' = true)
    (hnews : ∀ (j : Nat) (u : Value), [p, q][j]? = some u → w.cell? (ad.add j) = some u) (hsmall : n ≤ 1000000) (hbase : base ≤ w.heap.size)
    (h : ∀ v' w', Hid (w'.ownsRow base 47 2 v' (n + 1) (xs ++ [p, q])) → Hid (w.grownBy w' v.ownBlock) → Hid (v'.ownBlock = v.ownBlock ∨ v'.ownBlock = some w.heap.size) → K (a.put o.dst v') w') :
    if Region.wanted o (yielded ops a.tmps) = true then Oper.wp P o a w K Q else E := by
  rw [if_pos hw]
  obtain ⟨i0, hi0, hz0, hz1, hz2⟩ := infoPartsR hinfo
  obtain ⟨v', w', hr, ho1, hg1, _, h4⟩ := run_append_own_at (P := P) w base t o.type 47 i0 (.agg #[.int .i64 0, .string ByteArray.empty]) 2 24 ht hi0 hz0 hz1 hz2 rfl (by omega) v n xs hown ad 1 1 [p, q] rfl hnews (by
    intro u hu
    simp only [List.mem_cons, List.not_mem_nil, or_false] at hu
    rcases hu with rfl | rfl
    · exact hp
    · exact hq) (by unfold maxLen; omega) (by omega) hbase
  unfold Oper.wp execOp
  simp only [ho, resolve, invoke, builtin, Sem.run_bind, Sem.run_pure, Result.andThen_ok, List.map_toArray, List.map_cons, List.map_nil, hs, hx, hr]
  exact h v' w' ho1 hg1 h4
end Go.Proofs.Ytmikemijdglgaaa
/- the law's told: the program's groups as the document's, and held against them. -/
namespace Go.Proofs.Ytmikemijdglgaaa
open Go.RowKit
set_option linter.unusedVariables false
set_option linter.unusedSimpArgs false

/-- A row of the program's changes that can be read, as the document's. -/
def LRw (W : World) (v : Value) (l : List Dc) : Prop :=
  ∃ A c, v = .slice A l.length c ∧ l.length ≤ 1000000 ∧ (0 < l.length → ∃ b o, A = some ⟨b, o, none⟩ ∧ ∀ j x, l[j]? = some x → W.cell? ⟨b, o + j * 2, none⟩ = some (.int .i64 x.1) ∧ ∃ A' m c' F, W.cell? ⟨b, o + j * 2 + 1, none⟩ = some (.slice A' m c') ∧ Bytes W A' m F ∧ x.2 = strF F m)
def LGs (W : World) (v : Value) (gs : List (List Dc)) : Prop :=
  ∃ (A : Option Addr) (c : Nat) (vs : List Value), v = .slice A gs.length c ∧ vs.length = gs.length ∧ gs.length ≤ 1000000 ∧ (0 < gs.length → ∃ b o, A = some ⟨b, o, none⟩ ∧ ∀ (j : Nat) (u : Value), vs[j]? = some u → W.cell? ⟨b, o + j, none⟩ = some u) ∧
    ∀ (j : Nat) (u : Value) (l : List Dc), vs[j]? = some u → gs[j]? = some l → LRw W u l
theorem LRw.below {W W' : World} {v : Value} {l : List Dc} (h : LRw W v l) (k : Below W.heap.size W W') : LRw W' v l := by
  obtain ⟨A, c, e, h1, h2⟩ := h
  refine ⟨A, c, e, h1, fun h0 => ?_⟩
  obtain ⟨b, o, e2, h4⟩ := h2 h0
  refine ⟨b, o, e2, fun j x hx => ?_⟩
  obtain ⟨q1, A', m, c', F, q2, q3, q4⟩ := h4 j x hx
  exact ⟨kept_l k (cell_lt' q1) q1, A', m, c', F, kept_l k (cell_lt' q2) q2, q3.below k (Nat.le_refl _), q4⟩
theorem LGs.below {W W' : World} {v : Value} {gs : List (List Dc)} (h : LGs W v gs) (k : Below W.heap.size W W') : LGs W' v gs := by
  obtain ⟨A, c, vs, e, h1, h2, h3, h4⟩ := h
  refine ⟨A, c, vs, e, h1, h2, fun h0 => ?_, fun j u l a b => (h4 j u l a b).below k⟩
  obtain ⟨b, o, e2, h5⟩ := h3 h0
  exact ⟨b, o, e2, fun j u hu => kept_l k (cell_lt' (h5 j u hu)) (h5 j u hu)⟩
theorem LGs.len {W : World} {v : Value} {gs : List (List Dc)} (h : LGs W v gs) : ∃ A c, v = .slice A gs.length c ∧ gs.length ≤ 1000000 := by
  obtain ⟨A, c, vs, e, h1, h2, _⟩ := h
  exact ⟨A, c, e, h2⟩
/-- One row of them: its header, and what its changes are. -/
theorem LGs.at_ {W : World} {A : Option Addr} {n c : Nat} {gs : List (List Dc)} (h : LGs W (.slice A n c) gs) {i : Nat} (hi : i < gs.length) : ∃ b o, A = some ⟨b, o, none⟩ ∧ ∃ A' c' l, gs[i]? = some l ∧ W.cell? ⟨b, o + i, none⟩ = some (.slice A' l.length c') ∧ LRw W (.slice A' l.length c') l := by
  obtain ⟨A1, c1, vs, e, h1, h2, h3, h4⟩ := h
  injection e with e _ _
  subst e
  obtain ⟨b, o, rfl, h5⟩ := h3 (by omega)
  have hv : vs[i]? = some (vs[i]'(by omega)) := List.getElem?_eq_getElem _
  have hg : gs[i]? = some (gs[i]'hi) := List.getElem?_eq_getElem _
  have hr := h4 i _ _ hv hg
  obtain ⟨A', c', e', _⟩ := hr
  refine ⟨b, o, rfl, A', c', gs[i], hg, ?_, ?_⟩
  · rw [← e']; exact h5 i _ hv
  · rw [← e']; exact h4 i _ _ hv hg
theorem LRw.at_ {W : World} {A : Option Addr} {n c : Nat} {l : List Dc} (h : LRw W (.slice A n c) l) {j : Nat} {x : Dc} (hx : l[j]? = some x) : ∃ b o, A = some ⟨b, o, none⟩ ∧ W.cell? ⟨b, o + j * 2, none⟩ = some (.int .i64 x.1) ∧ ∃ A' m c' F, W.cell? ⟨b, o + j * 2 + 1, none⟩ = some (.slice A' m c') ∧ Bytes W A' m F ∧ x.2 = strF F m := by
  obtain ⟨A1, c1, e, h1, h2⟩ := h
  injection e with e _ _
  subst e
  obtain ⟨b, o, rfl, h5⟩ := h2 (by have := (List.getElem?_eq_some_iff.1 hx).1; omega)
  exact ⟨b, o, rfl, h5 j x hx⟩
theorem take_snoc {α : Type} {l : List α} {j : Nat} {x : α} (h : l[j]? = some x) : l.take (j + 1) = l.take j ++ [x] := by
  rw [List.take_add_one, h]; rfl
theorem take_len' {α : Type} {l : List α} {j : Nat} (h : j ≤ l.length) : (l.take j).length = j := by rw [List.length_take]; omega
set_option maxRecDepth 100000 in
set_option maxHeartbeats 8000000 in
theorem told_any (va vb : Value) (ga gb : List (List Dc)) (Y : Nat → Prop) (w : World) (ha : LGs w va ga) (hb : GD Y w vb gb) :
    Calls Try.prog 23 #[va, vb] w fun e w' => e = .returned (.bool (Sm ga gb)) ∧ Below w.heap.size w w' := by
  obtain ⟨Aa, ca, rfl, hla⟩ := ha.len
  obtain ⟨Ab, cb, rfl, hlb⟩ := hb.len
  have HA := Lib.hid ha
  have HB := Lib.hid hb
  clear ha hb
  obtain ⟨n, hn⟩ : ∃ n, n = ga.length := ⟨_, rfl⟩
  have HN := Lib.hid hn
  rw [← hn] at hla HA ⊢
  clear hn
  obtain ⟨i1, hi1, hy0, hy1, hy2⟩ := infoPartsR infoDcs
  have HI := Lib.hid (And.intro hi1 (And.intro hy0 (And.intro hy1 hy2)))
  clear hi1 hy0 hy1 hy2
  go_enter Try.func23, Try.ntmps23
  go_wp2
  go_loopw [5, 6] (fun u i wr => ∃ k : Nat, k ≤ n ∧ i = .int .i64 k ∧ GB w.heap.size (ga.take k) [] u (.slice none 0 0) wr ∧ Below w.heap.size w wr) (fun u i _ => n - (intOf i).toNat)
  case atStart => exact ⟨0, Nat.zero_le _, rfl, GB.nil _ _, Below.refl _ _⟩
  case round =>
    obtain ⟨k, hk, rfl, hgb, hbl⟩ := hrel
    obtain ⟨wo, hwo⟩ : ∃ wo, wo = wr := ⟨_, rfl⟩
    subst hwo
    have HL := Lib.hid hbl
    have HG := Lib.hid hgb
    clear hbl hgb
    by_cases hlt : k < n
    · obtain ⟨b1, o1, rfl, A1, c1, l1, g1, k1, r1⟩ := HA.out.at_ (i := k) (by rw [← HN.out]; exact hlt)
      have HG1 := Lib.hid g1
      have HR1 := Lib.hid r1
      obtain ⟨m1, hm1⟩ : ∃ m, m = l1.length := ⟨_, rfl⟩
      have hb1 : m1 ≤ 1000000 := by obtain ⟨_, _, _, h, _⟩ := r1; omega
      rw [← hm1] at k1 HR1
      have HM := Lib.hid hm1
      clear g1 r1 hm1
      have KS := Lib.hid (show ∀ W, Below w.heap.size w W → W.cell? ⟨b1, o1 + k, none⟩ = some (.slice A1 m1 c1) from fun W l => kept_l l (cell_lt' k1) k1)
      clear k1
      go_wp2
      go_loopw [7, 8] (fun u i W => ∃ j : Nat, j ≤ m1 ∧ i = .int .i64 j ∧ GB w.heap.size (ga.take k) (l1.take j) u5 u W ∧ Below w.heap.size w W) (fun u i _ => m1 - (intOf i).toNat)
      case atStart => exact ⟨0, Nat.zero_le _, rfl, HG.out, HL.out⟩
      case round =>
        obtain ⟨j, hj, rfl, hgb, hbl⟩ := hrel
        obtain ⟨wi, hwi⟩ : ∃ wi, wi = wr := ⟨_, rfl⟩
        subst hwi
        have HLi := Lib.hid hbl
        have HGi := Lib.hid hgb
        have hsz := hbl.size
        clear hbl hgb
        have q1 := KS.out _ HLi.out
        by_cases hjl : j < m1
        · obtain ⟨x, hx⟩ : ∃ x, l1[j]? = some x := ⟨_, List.getElem?_eq_getElem (by have := HM.out; omega)⟩
          obtain ⟨b2, o2, rfl, d0, A2, m2, c2, F2, d1, by2, e2⟩ := HR1.out.at_ hx
          have HX := Lib.hid hx
          clear hx
          obtain ⟨xp, xs⟩ := x
          dsimp only at d0 e2
          subst e2
          have KC := Lib.hid (show ∀ W, Below w.heap.size w W → W.cell? ⟨b1, o1 + k, none⟩ = some (.slice (some ⟨b2, o2, none⟩) m1 c1) ∧ W.cell? ⟨b2, o2 + j * 2, none⟩ = some (.int .i64 xp) ∧ W.cell? ⟨b2, o2 + j * 2 + 1, none⟩ = some (.slice A2 m2 c2) ∧ (convert 42 9 (.slice A2 m2 c2)).run Try.prog W = .ok (.string (strF F2 m2)) W from fun W l => ⟨KS.out W l, kept_l l (cell_lt' d0) d0, kept_l l (cell_lt' d1) d1, conv_any c2 (by2.below l (Nat.le_refl _))⟩)
          obtain ⟨xs, hxs⟩ : ∃ s, s = strF F2 m2 := ⟨_, rfl⟩
          rw [← hxs] at KC HX
          clear hxs d0 d1 by2
          obtain ⟨s1, s2, s3, s4⟩ := KC.out _ HLi.out
          have hlen : (l1.take j).length = j := take_len' (by have := HM.out; omega)
          have hown := HGi.out.own.2
          rw [hlen] at hown
          obtain ⟨A7, c7, rfl⟩ := own_sl hown
          have HO := Lib.hid hown
          have HLen := Lib.hid hlen
          have l3 : Below wi.heap.size wi (wi.drew.alloc (.cells #[.int .i64 xp, .string xs] 47)) := ((Below.refl _ _).drew).alloc (Nat.le_refl _) _
          have L3 := Lib.hid l3
          have HO3 := Lib.hid (own_belowR hown l3)
          have HB3 := Lib.hid (HGi.out.below l3)
          clear hown hlen l3
          have KK := Lib.hid (show ∀ W, Below wi.heap.size wi W → W.cell? ⟨b1, o1 + k, none⟩ = some (.slice (some ⟨b2, o2, none⟩) m1 c1) ∧ W.cell? ⟨b2, o2 + j * 2, none⟩ = some (.int .i64 xp) ∧ W.cell? ⟨b2, o2 + j * 2 + 1, none⟩ = some (.slice A2 m2 c2) ∧ (convert 42 9 (.slice A2 m2 c2)).run Try.prog W = .ok (.string xs) W from fun W l => KC.out W (HLi.out.trans (l.mono hsz)))
          go_wp2
          go_region_held_law (fun W => W.cell? ⟨b1, o1 + k, none⟩ = some (.slice (some ⟨b2, o2, none⟩) m1 c1) ∧ W.cell? ⟨b2, o2 + j * 2, none⟩ = some (.int .i64 xp) ∧ W.cell? ⟨b2, o2 + j * 2 + 1, none⟩ = some (.slice A2 m2 c2) ∧ (convert 42 9 (.slice A2 m2 c2)).run Try.prog W = .ok (.string xs) W)
            (first | exact KC.out _ LW.out | exact KK.out _ L3.out | exact KK.out _ (Below.refl _ _).drew)
            (first
            | (refine step_append_dc (by rfl) _ _ 45 rfl Try.underlying45 infoDc w.heap.size (.slice A7 j c7) j (dcCells (l1.take j)) rfl HO3.out ⟨wi.heap.size, 0, none⟩ (.int .i64 xp) (.string xs) rfl rfl rfl (cells_newR2 _ _ _ _) (by omega) (Nat.le_trans hsz (by simp)) ?_
               intro v2 w9 HO2 HG2 HA2
               have LW : Hid (Below w.heap.size w w9) := Lib.hid ((HLi.out.trans (L3.out.mono hsz)).grown HG2.out (Nat.le_trans hsz (by simp)) (fun j hj => (HO3.out.lt j hj).1))))
          go_wp2
          go_roundw
          case rel =>
            refine ⟨j + 1, by omega, by go_num, ?_, LW.out⟩
            rw [take_snoc HX.out]
            exact HB3.out.push (x := (xp, xs)) (by rw [HLen.out]; omega) (by rw [HLen.out]; exact HO2.out) HG2.out HA2.out
          case measure => simp [intOf]; omega
        · obtain rfl : j = m1 := by omega
          have HGl := Lib.hid (show GB w.heap.size (ga.take k) l1 u5 u7 wi by
            have := HGi.out
            rw [List.take_of_length_le (l := l1) (by have := HM.out; omega)] at this
            exact this)
          have hlen : (ga.take k).length = k := take_len' (by have := HN.out; omega)
          obtain ⟨⟨A5, c5, h5⟩, ⟨A7, c7, h7⟩, _⟩ := HGl.out.len
          rw [hlen] at h5
          rw [← HM.out] at h7
          subst h5 h7
          obtain ⟨vs, hvs⟩ := HGl.out.own.1
          rw [hlen] at hvs
          have HV := Lib.hid hvs
          have HLen := Lib.hid hlen
          clear hvs hlen
          have l3 : Below wi.heap.size wi (wi.alloc (.cells #[.slice A7 j c7] 45)) := (Below.refl _ _).alloc (Nat.le_refl _) _
          have L3 := Lib.hid l3
          have HB3 := Lib.hid (HGl.out.below l3)
          have HV3 := Lib.hid (own_belowR HV.out l3)
          clear l3
          go_wp2_with (at_builtin; refine wpList_append_own_at _ rfl _ _ 37 rfl w.heap.size 45 i1 (.slice none 0 0) 1 24 Try.underlying37 HI.out.1 HI.out.2.1 HI.out.2.2.1 HI.out.2.2.2 rfl (by decide) _ _ _ rfl HV3.out ⟨wi.heap.size, 0, none⟩ 1 1 [.slice A7 j c7] rfl rfl (cells_newR1 _ _ _) (by simp [Value.oneCell']) (by unfold maxLen; omega) (by omega) (by simp; omega) ?_; intro v2 w9 hown hgr _ hat; have LW : Hid (Below w.heap.size w w9) := Lib.hid ((HLi.out.trans (L3.out.mono hsz)).grown hgr (Nat.le_trans hsz (by simp)) (fun j hj => (HV3.out.lt j hj).1)); have HQ := Lib.hid (And.intro hown hgr); clear hown hgr hat)
          go_roundw
          case rel =>
            refine ⟨k + 1, by omega, by go_num, ?_, LW.out⟩
            rw [take_snoc HG1.out]
            exact HB3.out.close (by rw [HLen.out]; omega) (fun vs' hv => by
              rw [HLen.out] at hv ⊢
              rw [own_same hv HV3.out]
              exact HQ.out.1) HQ.out.2
          case measure => simp [intOf]; omega
    · obtain rfl : k = n := by omega
      obtain ⟨⟨A5, c5, h5⟩, _⟩ := HG.out.len
      have HGk := Lib.hid (show GB w.heap.size ga [] u5 (.slice none 0 0) wo by
        have := HG.out
        rw [List.take_of_length_le (l := ga) (by have := HN.out; omega)] at this
        exact this)
      obtain ⟨X, hgd⟩ := HGk.out.gd
      have KQ := Lib.hid (refSame_any X Y u5 (.slice Ab gb.length cb) ga gb wo hgd (HB.out.below HL.out))
      clear h5 hgd
      go_wp2_with fail
      refine KQ.out.mono ?_
      rintro e w5 ⟨rfl, l5⟩
      have L5 := Lib.hid l5
      clear l5
      go_wp2
      go_ret
      exact ⟨rfl, HL.out.trans (L5.out.mono HL.out.size)⟩
end Go.Proofs.Ytmikemijdglgaaa
/- The walk of FrameBack: a sector is read as it was made. -/
namespace Go.Proofs.Ytmikemijdglgaaa
open Go.RowKit

theorem sec_mark {m v n : Nat} {G : Nat → Nat} (hv : v < 18446744073709551616) (hm : 16 ≤ m) : leTo (secF m v n G) 8 = v := by
  have e8 : (256 : Nat) ^ 8 = 18446744073709551616 := by decide
  refine leTo_eq (by rw [e8]; exact hv) fun i hi => ?_
  rw [secF_head hv hm (by omega)]
  unfold headF
  rw [if_pos hi]
theorem sec_ok {m v n : Nat} {G : Nat → Nat} (h44 : 44 ≤ m) (h1 : 1 ≤ v) (h2 : v ≤ 4611686018427387904) (hF : ∀ i, i < m + 20 → secF m v n G i < 256) : okP (secF m v n G) m := by
  have hv : v < 18446744073709551616 := by omega
  refine (ok_iff h44 hF).2 ?_
  unfold secP
  rw [sec_mark hv (by omega)]
  refine ⟨⟨h1, h2⟩, fun i hi => ?_⟩
  have hbody : ∀ j, j < m → bodyF v (m - 16) (fun j => secF m v n G (16 + j)) j = bodyF v n G j := fun j hj => by
    rw [← secF_body hv hj, ← secF_body (n := n) hv hj]
    by_cases h16 : j < 16
    · rw [secF_head hv (by omega) h16, secF_head hv (by omega) h16]
    · rw [secF_load hv (by omega) (by omega) hj]
      show secF m v n G (16 + (j - 16)) = _
      congr 1
      omega
  by_cases h1 : i < m
  · rw [secF_body hv h1, secF_body hv h1]
    exact hbody i h1
  · by_cases h2 : i < m + 4
    · obtain ⟨k, rfl⟩ : ∃ k, i = m + k := ⟨i - m, by omega⟩
      rw [secF_sum hv (by omega), secF_sum hv (by omega), crc_congr hbody]
    · obtain ⟨k, rfl⟩ : ∃ k, i = m + 4 + k := ⟨i - (m + 4), by omega⟩
      rw [secF_tail hv (by omega), secF_tail hv (by omega)]

end Go.Proofs.Ytmikemijdglgaaa
/- One byte that is another one is found out: the plain part. -/
namespace Go.Proofs.Ytmikemijdglgaaa

theorem xor_cancel {a b p : Nat} (h : a ^^^ p = b ^^^ p) : a = b := by
  have h2 := congrArg (fun x => x ^^^ p) h
  simpa only [Nat.xor_assoc, Nat.xor_self, Nat.xor_zero] using h2
theorem stp_bit {c : Nat} (h : c < 4294967296) : (stp c).testBit 31 = decide (c % 2 = 1) := by
  have hs : (c / 2).testBit 31 = false := Nat.testBit_lt_two_pow (by omega)
  unfold stp
  by_cases ho : c % 2 = 1
  · rw [if_pos ho, Nat.testBit_xor, hs]
    simp only [ho]
    decide
  · rw [if_neg ho, hs]
    simp [ho]
theorem stp_inj {c d : Nat} (hc : c < 4294967296) (hd : d < 4294967296) (h : stp c = stp d) : c = d := by
  have h1 := stp_bit hc
  have h2 := stp_bit hd
  rw [h, h2] at h1
  have h3 := decide_eq_decide.1 h1
  unfold stp at h
  by_cases ho : c % 2 = 1
  · rw [if_pos ho, if_pos (h3.2 ho)] at h
    have := xor_cancel h
    have := h3.2 ho
    omega
  · have hd2 : ¬ d % 2 = 1 := fun q => ho (h3.1 q)
    rw [if_neg ho, if_neg hd2] at h
    omega
theorem stpN_inj {c d : Nat} (hc : c < 4294967296) (hd : d < 4294967296) : ∀ k, stpN k c = stpN k d → c = d
  | 0, h => h
  | k + 1, h => stpN_inj hc hd k (stp_inj (stpN_lt hc k) (stpN_lt hd k) h)
/-- Bytes that differ at one place alone have unlike checks. -/
theorem crcTo_one {F G : Nat → Nat} {k : Nat} (hne : F k ≠ G k) : ∀ {n : Nat}, (∀ i, i < n → F i < 256) → (∀ i, i < n → G i < 256) → (∀ i, i < n → i ≠ k → F i = G i) → k < n → crcTo F n ≠ crcTo G n
  | 0, _, _, _, h => absurd h (by omega)
  | n + 1, hF, hG, hs, hk => by
    have f1 := crcTo_lt (F := F) (n := n) fun i hi => hF i (by omega)
    have g1 := crcTo_lt (F := G) (n := n) fun i hi => hG i (by omega)
    have f2 := hF n (by omega)
    have g2 := hG n (by omega)
    intro h
    have h1 := stpN_inj (xor_lt32 f1 (by omega)) (xor_lt32 g1 (by omega)) 8 h
    by_cases e : k = n
    · subst e
      have hc : crcTo F k = crcTo G k := crcTo_congr fun i hi => hs i (by omega) (by omega)
      rw [hc, Nat.xor_comm, Nat.xor_comm (crcTo G k)] at h1
      exact hne (xor_cancel h1)
    · have hn := hs n (by omega) (fun q => e q.symm)
      rw [hn] at h1
      exact crcTo_one hne (fun i hi => hF i (by omega)) (fun i hi => hG i (by omega)) (fun i hi => hs i (by omega)) (by omega) (xor_cancel h1)
theorem crc_one {F G : Nat → Nat} {k n : Nat} (hne : F k ≠ G k) (hF : ∀ i, i < n → F i < 256) (hG : ∀ i, i < n → G i < 256) (hs : ∀ i, i < n → i ≠ k → F i = G i) (hk : k < n) : crc F n ≠ crc G n := by
  have h := crcTo_one hne hF hG hs hk
  have f1 := crcTo_lt hF
  have g1 := crcTo_lt hG
  unfold crc
  omega

/-- Of bytes that are a sector of mark v: head, tail, check. -/
theorem ok_head {F : Nat → Nat} {m : Nat} (hm : 44 ≤ m) (hF : ∀ i, i < m + 20 → F i < 256) (h : okP F m) : (∀ i, i < 16 → headF (leTo F 8) i = F i) ∧ (∀ i, i < 16 → headF (leTo F 8) i = F (m + 4 + i)) := by
  obtain ⟨⟨_, h2⟩, p1, p2, _⟩ := h
  exact ⟨(pair_head (by omega) fun i hi => hF i (by omega)).1 p1, (pair_head (G := fun i => F (m + 4 + i)) (by omega) fun i hi => hF _ (by omega)).1 p2⟩
theorem leTo_head {v : Nat} (hv : v < 18446744073709551616) {F : Nat → Nat} (h : ∀ i, i < 8 → headF v i = F i) : leTo F 8 = v := by
  have e8 : (256 : Nat) ^ 8 = 18446744073709551616 := by decide
  refine leTo_eq (by rw [e8]; exact hv) fun i hi => ?_
  rw [← h i hi]
  unfold headF
  rw [if_pos hi]

theorem turned {F G : Nat → Nat} {m k : Nat} (hm : 44 ≤ m) (hF : ∀ i, i < m + 20 → F i < 256) (hG : ∀ i, i < m + 20 → G i < 256) (hs : ∀ i, i < m + 20 → i ≠ k → F i = G i) (hk : k < m + 20) (hne : F k ≠ G k) (hok : okP F m) : ¬ okP G m := by
  intro hok2
  obtain ⟨f1, f2⟩ := ok_head hm hF hok
  obtain ⟨g1, g2⟩ := ok_head hm hG hok2
  have vF : leTo F 8 < 18446744073709551616 := by have := hok.1; omega
  have vG : leTo G 8 < 18446744073709551616 := by have := hok2.1; omega
  by_cases h1 : k < 16
  · have e : leTo F 8 = leTo G 8 := by
      have a1 := leTo_head vF (F := fun i => F (m + 4 + i)) fun i hi => f2 i (by omega)
      have a2 := leTo_head vG (F := fun i => G (m + 4 + i)) fun i hi => g2 i (by omega)
      rw [← a1, ← a2]
      exact leTo_congr fun i hi => hs _ (by omega) (by omega)
    exact hne (by rw [← f1 k h1, ← g1 k h1, e])
  · by_cases h2 : k < m
    · have c1 := hok.2.2.2
      have c2 := hok2.2.2.2
      have e : leTo (fun i => F (m + i)) 4 = leTo (fun i => G (m + i)) 4 := leTo_congr fun i hi => hs _ (by omega) (by omega)
      rw [c1, c2] at e
      exact crc_one hne (fun i hi => hF i (by omega)) (fun i hi => hG i (by omega)) (fun i hi => hs i (by omega)) h2 e
    · by_cases h3 : k < m + 4
      · have c1 := hok.2.2.2
        have c2 := hok2.2.2.2
        have e : crc F m = crc G m := crc_congr fun i hi => hs i (by omega) (by omega)
        rw [← c1, ← c2] at e
        have d1 := leTo_digit (F := fun i => F (m + i)) (n := 4) (i := k - m) (fun i hi => hF _ (by omega)) (by omega)
        have d2 := leTo_digit (F := fun i => G (m + i)) (n := 4) (i := k - m) (fun i hi => hG _ (by omega)) (by omega)
        rw [e, d2] at d1
        have ek : m + (k - m) = k := by omega
        rw [ek] at d1
        exact hne d1.symm
      · have e : leTo F 8 = leTo G 8 := leTo_congr fun i hi => hs i (by omega) (by omega)
        have a1 := f2 (k - (m + 4)) (by omega)
        have a2 := g2 (k - (m + 4)) (by omega)
        have ek : m + 4 + (k - (m + 4)) = k := by omega
        rw [ek] at a1 a2
        exact hne (by rw [← a1, ← a2, e])
end Go.Proofs.Ytmikemijdglgaaa
/- What is torn is found out: the plain part. -/
namespace Go.Proofs.Ytmikemijdglgaaa

theorem okP_congr {F G : Nat → Nat} {m : Nat} (hm : 44 ≤ m) (h : ∀ i, i < m + 20 → F i = G i) (hok : okP F m) : okP G m := by
  have e1 : leTo F 8 = leTo G 8 := leTo_congr fun i hi => h i (by omega)
  have e2 : leTo (fun i => F (8 + i)) 8 = leTo (fun i => G (8 + i)) 8 := leTo_congr fun i hi => h _ (by omega)
  have e3 : leTo (fun i => F (m + 4 + i)) 8 = leTo (fun i => G (m + 4 + i)) 8 := leTo_congr fun i hi => h _ (by omega)
  have e4 : leTo (fun i => F (m + 4 + (8 + i))) 8 = leTo (fun i => G (m + 4 + (8 + i))) 8 := leTo_congr fun i hi => h _ (by omega)
  have e5 : leTo (fun i => F (m + i)) 4 = leTo (fun i => G (m + i)) 4 := leTo_congr fun i hi => h _ (by omega)
  have e6 : crc F m = crc G m := crc_congr fun i hi => h i (by omega)
  unfold okP pairB at hok ⊢
  rw [← e1, ← e2, ← e3, ← e4, ← e5, ← e6]
  exact hok

/-- Bytes of a sector of mark M, as far as its marks go. -/
def Marked (S : Nat → Nat) (m M : Nat) : Prop := (∀ i, i < 16 → S i = headF M i) ∧ (∀ i, i < 16 → S (m + 4 + i) = headF M i)
theorem sec_marked {m v n : Nat} {G : Nat → Nat} (hv : v < 18446744073709551616) (hm : 16 ≤ m) : Marked (secF m v n G) m v :=
  ⟨fun _ hi => secF_head hv hm hi, fun _ hi => secF_tail hv hi⟩
theorem low_eq {v M : Nat} (hv : v < 18446744073709551616) (hM : M < 18446744073709551616) (h : ∀ i, i < 8 → headF v i = headF M i) : v = M := by
  have h1 := leTo_head hv (F := headF M) h
  have h2 := leTo_head hM (F := headF M) fun i _ => rfl
  omega
theorem high_eq {v M : Nat} (hv : v < 18446744073709551616) (hM : M < 18446744073709551616) (h : ∀ i, 8 ≤ i → i < 16 → headF v i = headF M i) : v = M := by
  refine low_eq hv hM fun i hi => ?_
  have h1 := h (8 + i) (by omega) (by omega)
  unfold headF at h1 ⊢
  rw [if_neg (by omega), if_neg (by omega), Nat.add_sub_cancel_left] at h1
  rw [if_pos hi, if_pos hi]
  have := leF_lt v i
  have := leF_lt M i
  omega
theorem high_zero {v : Nat} (hv : v ≤ 4611686018427387904) (h : ∀ i, 8 ≤ i → i < 16 → headF v i = 0) : False := by
  have h1 := h 15 (by omega) (by omega)
  unfold headF leF at h1
  rw [if_neg (by omega)] at h1
  have e : (256 : Nat) ^ (15 - 8) = 72057594037927936 := by decide
  rw [e] at h1
  omega

def tornF (base S1 S2 : Nat → Nat) (c1 c2 : Nat) : Nat → Nat := copyF (copyF base 0 c1 S1) 0 c2 S2
theorem torn_at (base S1 S2 : Nat → Nat) (c1 c2 i : Nat) : tornF base S1 S2 c1 c2 i = if i < c2 then S2 i else if i < c1 then S1 i else base i := by
  unfold tornF copyF
  simp only [Nat.zero_le, true_and, Nat.zero_add, Nat.sub_zero]

/-- First pieces of two sectors upon a third one, or upon 0: what is read as a sector is just one of them. -/
theorem torn_one {m M0 M1 M2 c1 c2 : Nat} {base S1 S2 : Nat → Nat} {zero : Bool} (hm : 44 ≤ m)
    (h0 : zero = false → Marked base m M0) (hz : zero = true → ∀ i, base i = 0) (h1 : Marked S1 m M1) (h2 : Marked S2 m M2)
    (v0 : M0 ≤ 4611686018427387904) (v1 : M1 ≤ 4611686018427387904) (v2 : M2 ≤ 4611686018427387904) (n01 : zero = false → M0 ≠ M1) (n02 : zero = false → M0 ≠ M2) (n12 : M1 ≠ M2)
    (hF : ∀ i, i < m + 20 → tornF base S1 S2 c1 c2 i < 256) (hok : okP (tornF base S1 S2 c1 c2) m) :
    (∀ i, i < m + 20 → tornF base S1 S2 c1 c2 i = S2 i) ∨ (∀ i, i < m + 20 → tornF base S1 S2 c1 c2 i = S1 i) ∨ (zero = false ∧ ∀ i, i < m + 20 → tornF base S1 S2 c1 c2 i = base i) := by
  obtain ⟨hh, ht⟩ := ok_head hm hF hok
  have hv2 := hok.1.2
  generalize leTo (tornF base S1 S2 c1 c2) 8 = v at hh ht hv2
  have hv : v < 18446744073709551616 := by omega
  simp only [torn_at] at hh ht ⊢
  -- the end of the tail is the base's: it has the base's mark
  have base_high : (∀ i, 8 ≤ i → i < 16 → headF v i = base (m + 4 + i)) → zero = false ∧ v = M0 := fun h => by
    cases zero with
    | true => exact absurd (fun i a b => (h i a b).trans (hz rfl _)) (fun q => high_zero hv2 q)
    | false => exact ⟨rfl, high_eq hv (by omega) fun i a b => (h i a b).trans ((h0 rfl).2 i b)⟩
  by_cases a : 16 ≤ c2
  · have e2 : v = M2 := low_eq hv (by omega) fun i hi => by
      have := hh i (by omega)
      rw [if_pos (by omega)] at this
      rw [this, h2.1 i (by omega)]
    by_cases b : m + 4 ≤ c2
    · refine .inl fun i hi => ?_
      by_cases c : i < c2
      · rw [if_pos c]
      · obtain ⟨k, rfl⟩ : ∃ k, i = m + 4 + k := ⟨i - (m + 4), by omega⟩
        rw [← ht k (by omega), e2, h2.2 k (by omega)]
    · by_cases d : m + 12 ≤ c1
      · have e1 : v = M1 := low_eq hv (by omega) fun i hi => by
          have := ht i (by omega)
          rw [if_neg (by omega), if_pos (by omega)] at this
          rw [this, h1.2 i (by omega)]
        omega
      · have e0 := base_high fun i x y => by
          have := ht i y
          rw [if_neg (by omega), if_neg (by omega)] at this
          exact this
        exact absurd (e0.2.symm.trans e2) (n02 e0.1)
  · by_cases d : m + 12 ≤ c1
    · have e1 : v = M1 := low_eq hv (by omega) fun i hi => by
        have := ht i (by omega)
        rw [if_neg (by omega), if_pos (by omega)] at this
        rw [this, h1.2 i (by omega)]
      refine .inr (.inl fun i hi => ?_)
      by_cases x : i < 16
      · rw [← hh i x, e1, h1.1 i x]
      · by_cases y : i < c1
        · rw [if_neg (by omega), if_pos y]
        · obtain ⟨k, rfl⟩ : ∃ k, i = m + 4 + k := ⟨i - (m + 4), by omega⟩
          rw [← ht k (by omega), e1, h1.2 k (by omega)]
    · have e0 := base_high fun i x y => by
        have := ht i y
        rw [if_neg (by omega), if_neg (by omega)] at this
        exact this
      by_cases f : 16 ≤ c1
      · by_cases g : c2 ≤ 8
        · have e1 : v = M1 := high_eq hv (by omega) fun i x y => by
            have := hh i y
            rw [if_neg (by omega), if_pos (by omega)] at this
            rw [this, h1.1 i y]
          exact absurd (e0.2.symm.trans e1) (n01 e0.1)
        · have e2 : v = M2 := low_eq hv (by omega) fun i hi => by
            have := hh i (by omega)
            rw [if_pos (by omega)] at this
            rw [this, h2.1 i (by omega)]
          exact absurd (e0.2.symm.trans e2) (n02 e0.1)
      · refine .inr (.inr ⟨e0.1, fun i hi => ?_⟩)
        by_cases x : i < 16
        · rw [← hh i x, e0.2, (h0 e0.1).1 i x]
        · rw [if_neg (by omega), if_neg (by omega)]
end Go.Proofs.Ytmikemijdglgaaa
