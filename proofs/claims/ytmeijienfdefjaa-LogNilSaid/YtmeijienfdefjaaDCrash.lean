/- The contract of Crash. -/
import Derived.Test.YtmeijienfdefjaaDFlush
import Derived.IntWalk
namespace Go.Proofs.Ytmeijienfdefjaa
open Go.RowKit

theorem chooser_any (A : Option Addr) (L c : Nat) (w : World) : Calls Try.prog 54 #[.slice A L c] w fun e w' =>
    e = .returned (.func (Fn.func 67) #[] #[.pointer (some ⟨w.heap.size + 1, 0, none⟩), .pointer (some ⟨w.heap.size, 0, none⟩)]) ∧ w' = (w.alloc (.cells #[.slice A L c] 67)).alloc (.cells #[.int .i64 0] 3) := by
  go_enter Try.func54, Try.ntmps54
  go_wp2
  go_ret
  exact ⟨rfl, rfl⟩

/-- What is fast, and the next fate, after the first j loose writes of a crash. -/
def crashTo (S : DS) (fa : Nat → Int) (L : Nat) : Nat → (Nat → Nat → Nat) × Nat
  | 0 => (S.fast, 0)
  | j + 1 =>
    let p := crashTo S fa L j
    match S.loose[j]? with
    | none => p
    | some x => if j + 1 = S.loose.length then (upd p.1 x.1 (copyF (p.1 x.1) 0 (choiceN fa L p.2 (S.size + 1)) x.2), nextN L p.2)
      else (if choiceN fa L p.2 2 = 1 then upd p.1 x.1 (copyF (p.1 x.1) 0 S.size x.2) else p.1, nextN L p.2)
def nowTo (f now : Nat → Nat → Nat) (l : List (Nat × (Nat → Nat))) : Nat → Nat → Nat := l.foldl (fun n x => upd n x.1 (f x.1)) now
def crashS (S : DS) (fa : Nat → Int) (L : Nat) : DS := { S with fast := (crashTo S fa L S.loose.length).1, now := nowTo (crashTo S fa L S.loose.length).1 S.now S.loose, loose := [], armed := 0, down := false }

theorem choiceN_lt (fa : Nat → Int) (L i n : Nat) (hn : 1 ≤ n) : choiceN fa L i n < n := by
  unfold choiceN
  have h1 := Int.emod_nonneg (fa i) (show (n : Int) ≠ 0 by omega)
  have h2 := Int.emod_lt_of_pos (fa i) (show (0 : Int) < n by omega)
  split <;> omega
theorem SecN.isOwn [Spare] {w : World} {base size : Nat} {v : Value} {F : Nat → Nat} (h : SecN w base size v F) : ∃ g c, v = .slice (some ⟨g, 0, none⟩) size c ∧ size ≤ c := by
  rcases h.1.2 with ⟨h2, _⟩ | ⟨g, c, _, h2, h3, _⟩
  · exact absurd h2 h.2
  · exact ⟨_, _, h2, h3⟩
theorem SecN.bytes [Spare] {w : World} {base size g c : Nat} {F : Nat → Nat} (h : SecN w base size (.slice (some ⟨g, 0, none⟩) size c) F) : Bytes w (some ⟨g, 0, none⟩) size F := by
  rcases h.1.2 with ⟨h2, _⟩ | ⟨g', c', cs, h2, h3, h4, h5, h6, h7⟩
  · cases h2
  · injection h2 with q1 q2 q3
    injection q1 with q1
    injection q1 with q1
    subst q1
    exact ⟨by omega, h.1.1, fun _ => ⟨g, 0, rfl, fun i hi => (cell_of_row w g (0 + i) _ _ _ h6).trans (by rw [Nat.zero_add]; exact h7 i hi)⟩⟩
/-- A call that turns the fates' counter alone. -/
theorem Dsk.grown [Spare] {w w' : World} {base p : Nat} {i : Int} {M : DM} {S : DS} (h : Dsk w base M S) (hp : w.heap[p]? = some (.cells #[.int .i64 i] 3 (0, 0))) (ha : p ≠ M.p ∧ p ≠ M.bf ∧ p ≠ M.bn ∧ M.vl.ownBlock ≠ some p) (g : w.grownBy w' (some p)) : Dsk w' base M S ∧ KeepB base w w' := by
  have lt : ∀ {k : Nat} {o : Obj}, w.heap[k]? = some o → k < w.heap.size := fun e => (Array.getElem?_eq_some_iff.1 e).1
  obtain ⟨V, v1, _⟩ := h.vf
  obtain ⟨U, u1, _⟩ := h.vn
  obtain ⟨vs, _, l2, _⟩ := h.lo
  have ne : ∀ {k : Nat}, k ≠ p → some k ≠ some p := fun a b => a (by injection b)
  have kb : KeepB base w w' := fun j cs _ hj => (g.block j (lt hj) (ne (type_ne hj hp (by decide)))).trans hj
  exact ⟨h.keep (g.block _ (lt h.hp) (ne ha.1.symm)) (g.block _ v1.lt (ne ha.2.1.symm)) (g.block _ u1.lt (ne ha.2.2.1.symm)) (fun k hk => g.block k (l2.lt k hk).2 (ne fun e => ha.2.2.2 (by rw [hk, e]))) kb g.size, kb⟩

/-- What holds at a round of the first loop. -/
structure CI [Spare] (A : Option Addr) (L c : Nat) (fa : Nat → Int) (base : Nat) (M : DM) (S : DS) (w wr : World) (k : Nat) : Prop where
  d : Dsk wr base M { S with fast := (crashTo S fa L k).1 }
  t : Turns base M w wr
  kb : KeepB base w wr
  le : (crashTo S fa L k).2 ≤ L
  nx : wr.heap[w.heap.size + 1]? = some (.cells #[.int .i64 (crashTo S fa L k).2] 3 (0, 0))
  bx : wr.cell? ⟨w.heap.size, 0, none⟩ = some (.slice A L c)
theorem Dsk.away [Spare] {w : World} {base : Nat} {M : DM} {S : DS} (h : Dsk w base M S) (b : Nat) (hb : b < base ∨ w.heap.size ≤ b) : b ≠ M.p ∧ b ≠ M.bf ∧ b ≠ M.bn ∧ M.vl.ownBlock ≠ some b := by
  obtain ⟨V, v1, _⟩ := h.vf
  obtain ⟨U, u1, _⟩ := h.vn
  obtain ⟨vs, _, l2, _⟩ := h.lo
  have a1 := (Array.getElem?_eq_some_iff.1 h.hp).1
  have a2 := v1.lt
  have a3 := u1.lt
  have a4 := h.bp
  have a5 := h.bbf
  have a6 := h.bbn
  refine ⟨by omega, by omega, by omega, fun e => ?_⟩
  have := l2.lt b e
  omega
/-- The fates lie in none of the disk's blocks. -/
def ApartI (A : Option Addr) (L : Nat) (M : DM) : Prop := 0 < L → ∀ b o, A = some ⟨b, o, none⟩ → b ≠ M.p ∧ b ≠ M.bf ∧ b ≠ M.bn ∧ M.vl.ownBlock ≠ some b
theorem Ints.turns {w w' : World} {A : Option Addr} {n base : Nat} {fa : Nat → Int} {M : DM} (h : Ints w A n fa) (hA : ApartI A n M) (t : Turns base M w w') : Ints w' A n fa :=
  h.keep fun b o e hn => by
    obtain ⟨a1, a2, a3, a4⟩ := hA hn b o e
    exact t.block b (h.blk b o e hn) a1 a2 a3 a4

theorem Turns.fates {base p : Nat} {M : DM} {w a b : World} (h : Turns base M w a) (g : a.grownBy b (some p)) (hp : w.heap.size ≤ p) : Turns base M w b :=
  ⟨g.os.trans h.os, g.tape.trans h.tape, g.output.trans h.output, Nat.le_trans h.size g.size, fun k hk e1 e2 e3 e4 => (g.block k (Nat.lt_of_lt_of_le hk h.size) (fun e => by injection e with e; omega)).trans (h.block k hk e1 e2 e3 e4)⟩
theorem CI.next [Spare] {A : Option Addr} {L c p : Nat} {fa : Nat → Int} {base : Nat} {M : DM} {S : DS} {w wr W w2 w3 : World} {k : Nat} (C : CI A L c fa base M S w wr k) (hp : p = w.heap.size + 1) (h0 : Dsk w base M S) (hl : Below wr.heap.size wr W) (g2 : W.grownBy w2 (some p)) (k2 : KeepB base W w2)
    (n2 : w2.heap[p]? = some (.cells #[.int .i64 (nextN L (crashTo S fa L k).2)] 3 (0, 0))) (t3 : Turns base M w2 w3) (k3 : KeepB base w2 w3) (d3 : Dsk w3 base M { S with fast := (crashTo S fa L (k + 1)).1 }) (hn : (crashTo S fa L (k + 1)).2 = nextN L (crashTo S fa L k).2) : CI A L c fa base M S w w3 (k + 1) := by
  subst hp
  have a1 := h0.away (w.heap.size + 1) (.inr (by omega))
  have a2 := h0.away w.heap.size (.inr (by omega))
  have b1 := (Array.getElem?_eq_some_iff.1 C.nx).1
  have b2 := hl.size
  have b3 := g2.size
  refine ⟨d3, ((C.t.trans (Turns.of_below hl)).fates g2 (by omega)).trans t3, ((C.kb.trans (keepB_below hl)).trans k2).trans k3, ?_, ?_, ?_⟩
  · rw [hn]
    have := C.le
    unfold nextN
    split <;> omega
  · rw [hn]
    exact (t3.block _ (Array.getElem?_eq_some_iff.1 n2).1 a1.1 a1.2.1 a1.2.2.1 a1.2.2.2).trans n2
  · refine (World.cell?_of_block (w := w2) (a := ⟨w.heap.size, 0, none⟩) (t3.block _ (by show w.heap.size < _; omega) a2.1 a2.2.1 a2.2.2.1 a2.2.2.2)).trans ?_
    refine (World.cell?_of_block (w := W) (a := ⟨w.heap.size, 0, none⟩) (g2.block _ (by show w.heap.size < _; omega) (fun e => by injection e with e; simp at e))).trans ?_
    exact (hl.cell (p := ⟨w.heap.size, 0, none⟩) (by show w.heap.size < _; omega)).trans C.bx

set_option maxHeartbeats 4000000 in
theorem crash_any [Spare] (A : Option Addr) (L c : Nat) (fa : Nat → Int) (w : World) (base : Nat) (M : DM) (S : DS) (h : Dsk w base M S) (hbase : base ≤ w.heap.size) (hI : Ints w A L fa) (hA : ApartI A L M) :
    Calls Try.prog 33 #[.pointer (some ⟨M.p, 0, none⟩), .slice A L c] w fun e w' => e = .returned (.tuple #[]) ∧ Dsk w' base { M with vl := .slice none 0 0 } (crashS S fa L) ∧ Turns base M w w' ∧ KeepB base w w' := by
  go_enter Try.func33, Try.ntmps33
  go_wp2_with fail
  refine (chooser_any A L c w).mono ?_
  rintro e w1 ⟨rfl, hw1⟩
  have lW : Below w.heap.size w w1 := by rw [hw1]; exact ((Below.refl _ _).alloc (Nat.le_refl _) _).alloc (by simp) _
  have sW : w1.heap.size = w.heap.size + 2 := by rw [hw1]; simp
  have x1 : w1.cell? ⟨w.heap.size, 0, none⟩ = some (.slice A L c) := by rw [hw1]; simp
  have D := h.below lW
  have hc3 := D.c3
  obtain ⟨n, c', A', hv⟩ : ∃ n c A, M.vl = .slice A n c ∧ n = S.loose.length := by
    obtain ⟨vs, l1, l2, l3⟩ := D.lo
    rcases l2.2 with ⟨h2, h3⟩ | ⟨g, cap, cur, a1, a2, a3, a4⟩
    · exact ⟨0, 0, none, h2, by omega⟩
    · exact ⟨_, _, _, a1, rfl⟩
  obtain ⟨hv1, hv2⟩ := hv
  subst hv2
  rw [hv1] at hc3
  have t1 : w1.heap[w.heap.size + 1]? = some (.cells #[.int .i64 0] 3 (0, 0)) := by
    rw [hw1]
    have := heap_alloc_new (w.alloc (.cells #[.slice A L c] 67)) (.cells #[.int .i64 0] 3)
    rw [World.size_alloc] at this
    exact this
  clear hw1
  have LW := Lib.hid lW
  have D0 := Lib.hid D
  clear D lW
  have hL := h.hL
  have tw : Turns base M w w1 := Turns.of_below LW.out
  have C0 : CI A L c fa base M S w w1 0 := ⟨D0.out, tw, keepB_below LW.out, Nat.zero_le _, t1, x1⟩
  have HC := Lib.hid C0
  have HI := Lib.hid hI
  have h0 := Lib.hid h
  clear C0 tw t1 x1 hI h
  go_wp2
  go_loopw [18] (fun i wr => ∃ k : Nat, k ≤ S.loose.length ∧ i = .int .i64 k ∧ CI A L c fa base M S w wr k) (fun i _ => S.loose.length - (intOf i).toNat)
  case atStart => exact ⟨0, Nat.zero_le _, rfl, HC.out⟩
  case round =>
    obtain ⟨k, hk, rfl, hC⟩ := hrel
    by_cases hlt : k < S.loose.length
    · obtain ⟨g, c2, x, v, e1, e2, e3, e4, e5, e6, e7, e8, e0⟩ := hC.d.looseAt k hlt
      rw [hv1] at e1
      injection e1 with e1 q1 q2
      subst e1
      clear q1 q2
      obtain ⟨gb, cb, rfl, hcb⟩ := e8.isOwn
      have y3 := hC.d.c3
      rw [hv1] at y3
      have y0 := hC.d.c0
      have ltp := (Array.getElem?_eq_some_iff.1 hC.d.hp).1
      have ltp' : M.p < w.heap.size := (Array.getElem?_eq_some_iff.1 h0.out.hp).1
      have lsz := hC.t.size
      have ltb := (Array.getElem?_eq_some_iff.1 hC.nx).1
      have hC0 := Lib.hid hC
      have hS := h0.out.hS
      have E8 := Lib.hid e8
      clear hC e8
      by_cases hlast : k + 1 = S.loose.length
      · have qk : ((k : Int) == (S.loose.length : Int) - 1) = true := by rw [beq_iff_eq]; omega
        obtain ⟨W, hW⟩ : ∃ W, W = wr.alloc (.cells #[.int .i64 (x.1 : Int), .slice (some ⟨gb, 0, none⟩) S.size cb] 111) := ⟨_, rfl⟩
        have lW' : Below wr.heap.size wr W := by rw [hW]; exact (Below.refl _ _).alloc (Nat.le_refl _) _
        have sW' : W.heap.size = wr.heap.size + 1 := by rw [hW]; simp
        have z0 : W.cell? ⟨wr.heap.size, 0, none⟩ = some (.int .i64 (x.1 : Int)) := by rw [hW]; simp
        have z1 : W.cell? ⟨wr.heap.size, 1, none⟩ = some (.slice (some ⟨gb, 0, none⟩) S.size cb) := by rw [hW]; simp
        have zp : W.cell? ⟨M.p, 0, none⟩ = some (.int .i64 S.size) := (lW'.cell (p := ⟨M.p, 0, none⟩) (by simp; omega)).trans y0
        have znx : W.heap[w.heap.size + 1]? = some (.cells #[.int .i64 (crashTo S fa L k).2] 3 (0, 0)) := (lW'.block _ ltb).trans hC0.out.nx
        have zbx : W.cell? ⟨w.heap.size, 0, none⟩ = some (.slice A L c) := (lW'.cell (p := ⟨w.heap.size, 0, none⟩) (by simp; omega)).trans hC0.out.bx
        have zI : Ints W A L fa := (HI.out.turns hA hC0.out.t).keep fun b o e hn => lW'.block b (by have := HI.out.blk b o e hn; omega)
        have HW' := Lib.hid hW
        have LW' := Lib.hid lW'
        have ZI := Lib.hid zI
        have ZNX := Lib.hid znx
        have ZBX := Lib.hid zbx
        clear lW' zI znx zbx
        have hwr : IntKind.i64.wrap ((S.size : Int) + 1) = ((S.size + 1 : Nat) : Int) := by
          rw [show IntKind.i64.wrap ((S.size : Int) + 1) = (S.size : Int) + 1 from IntWalk.i64_in _ (by omega)]
          omega
        have hcs := Lib.hid (show (S.size : Int) + 1 = ((S.size + 1 : Nat) : Int) by omega)
        have aw := Lib.hid (h0.out.away (w.heap.size + 1) (.inr (by omega)))
        have hs1 : S.size + 1 ≤ 1000000 := by omega
        have hs0 : 1 ≤ S.size + 1 := by omega
        have n0 : wr.heap.size ≠ w.heap.size + 1 := by omega
        have nM : M.p ≠ w.heap.size + 1 := by omega
        have bM : M.p < W.heap.size := by omega
        have bl : wr.heap.size < W.heap.size := by omega
        have KS := Lib.hid (show ∀ w2, W.drew.grownBy w2 (some (w.heap.size + 1)) → w2.cell? ⟨M.p, 0, none⟩ = some (.int .i64 S.size) ∧ w2.cell? ⟨wr.heap.size, 0, none⟩ = some (.int .i64 (x.1 : Int)) ∧ w2.cell? ⟨wr.heap.size, 1, none⟩ = some (.slice (some ⟨gb, 0, none⟩) S.size cb) from fun w2 g2 =>
          ⟨(World.cell?_of_block (w := W.drew) (a := ⟨M.p, 0, none⟩) (g2.block _ bM (by simpa using nM))).trans zp, (World.cell?_of_block (w := W.drew) (a := ⟨wr.heap.size, 0, none⟩) (g2.block _ bl (by simpa using n0))).trans z0, (World.cell?_of_block (w := W.drew) (a := ⟨wr.heap.size, 1, none⟩) (g2.block _ bl (by simpa using n0))).trans z1⟩)
        have lWd : Below wr.heap.size wr W.drew := LW'.out.drew
        have DK := Lib.hid (show ∀ w2, W.drew.grownBy w2 (some (w.heap.size + 1)) → Dsk w2 base M { S with fast := (crashTo S fa L k).1 } ∧ KeepB base W.drew w2 from fun w2 g2 => (hC0.out.d.below lWd).grown ZNX.out aw.out g2)
        have BK := Lib.hid (show ∀ w2, W.drew.grownBy w2 (some (w.heap.size + 1)) → Bytes w2 (some ⟨gb, 0, none⟩) S.size x.2 from fun w2 g2 => ((E8.out.keep (keepB_below lWd)).keep (DK.out w2 g2).2).bytes)
        have GK := Lib.hid (show ∀ w2, W.drew.grownBy w2 (some (w.heap.size + 1)) → base ≤ w2.heap.size ∧ wr.heap.size < w2.heap.size from fun w2 g2 => ⟨by have := g2.size; simp at this; omega, by have := g2.size; simp at this; omega⟩)
        have CL := Lib.hid (Nat.le_of_lt_succ (choiceN_lt fa L (crashTo S fa L k).2 (S.size + 1) hs0))
        have awl := Lib.hid (h0.out.away wr.heap.size (.inr lsz))
        have E7 := Lib.hid e7
        clear lWd
        go_wp2
        rw [← HW'.out]
        clear HW' hW y3 e5 e6 e0
        clear HC D0 hA hv1 hc3 y0 e2 e3 e7
        go_region_held3 (fun w' => w'.cell? ⟨M.p, 0, none⟩ = some (.int .i64 S.size) ∧ w'.cell? ⟨wr.heap.size, 0, none⟩ = some (.int .i64 (x.1 : Int)) ∧ w'.cell? ⟨wr.heap.size, 1, none⟩ = some (.slice (some ⟨gb, 0, none⟩) S.size cb))
          (first | exact ⟨zp, z0, z1⟩ | exact KS.out _ g2 | exact ⟨d3.c0, (World.cell?_of_block (w := w2) (a := ⟨wr.heap.size, 0, none⟩) (t3.block _ (GK.out _ g2).2 awl.out.1 awl.out.2.1 awl.out.2.2.1 awl.out.2.2.2)).trans (KS.out _ g2).2.1, (World.cell?_of_block (w := w2) (a := ⟨wr.heap.size, 1, none⟩) (t3.block _ (GK.out _ g2).2 awl.out.1 awl.out.2.1 awl.out.2.2.1 awl.out.2.2.2)).trans (KS.out _ g2).2.2⟩ | go_keep)
          (first | (go_at_call 67; rw [hcs.out]; refine (choose_any A L c (crashTo S fa L k).2 (S.size + 1) (w.heap.size + 1) w.heap.size fa W.drew ZI.out hC0.out.le hs0 hs1 ZNX.out ZBX.out).mono ?_; rintro e w2 ⟨rfl, n2, g2⟩) | (go_at_call 55; refine (settle_any x.1 (choiceN fa L (crashTo S fa L k).2 (S.size + 1)) gb 0 cb x.2 w2 base M { S with fast := (crashTo S fa L k).1 } (DK.out w2 g2).1 (GK.out w2 g2).1 E7.out CL.out (BK.out w2 g2) hcb).mono ?_; rintro e w3 ⟨rfl, d3, t3, k3⟩))
        have hcr : crashTo S fa L (k + 1) = (upd (crashTo S fa L k).1 x.1 (copyF ((crashTo S fa L k).1 x.1) 0 (choiceN fa L (crashTo S fa L k).2 (S.size + 1)) x.2), nextN L (crashTo S fa L k).2) := by
          simp only [crashTo, e4, if_pos hlast]
        have CN := Lib.hid (CI.next hC0.out rfl h0.out LW'.out.drew g2 (DK.out w2 g2).2 n2 t3 k3 (by rw [hcr]; exact d3) (by rw [hcr]))
        clear hcr d3 t3 k3 n2 g2
        go_wp2
        go_roundw
        case rel => exact ⟨k + 1, by omega, by go_num, CN.out⟩
        case measure => simp [intOf]; omega
      · have qk : ((k : Int) == (S.loose.length : Int) - 1) = false := by rw [beq_eq_false_iff_ne]; omega
        obtain ⟨W, hW⟩ : ∃ W, W = wr.alloc (.cells #[.int .i64 (x.1 : Int), .slice (some ⟨gb, 0, none⟩) S.size cb] 111) := ⟨_, rfl⟩
        have lW' : Below wr.heap.size wr W := by rw [hW]; exact (Below.refl _ _).alloc (Nat.le_refl _) _
        have sW' : W.heap.size = wr.heap.size + 1 := by rw [hW]; simp
        have z0 : W.cell? ⟨wr.heap.size, 0, none⟩ = some (.int .i64 (x.1 : Int)) := by rw [hW]; simp
        have z1 : W.cell? ⟨wr.heap.size, 1, none⟩ = some (.slice (some ⟨gb, 0, none⟩) S.size cb) := by rw [hW]; simp
        have zp : W.cell? ⟨M.p, 0, none⟩ = some (.int .i64 S.size) := (lW'.cell (p := ⟨M.p, 0, none⟩) (by simp; omega)).trans y0
        have znx : W.heap[w.heap.size + 1]? = some (.cells #[.int .i64 (crashTo S fa L k).2] 3 (0, 0)) := (lW'.block _ ltb).trans hC0.out.nx
        have zbx : W.cell? ⟨w.heap.size, 0, none⟩ = some (.slice A L c) := (lW'.cell (p := ⟨w.heap.size, 0, none⟩) (by simp; omega)).trans hC0.out.bx
        have zI : Ints W A L fa := (HI.out.turns hA hC0.out.t).keep fun b o e hn => lW'.block b (by have := HI.out.blk b o e hn; omega)
        have aw := Lib.hid (h0.out.away (w.heap.size + 1) (.inr (by omega)))
        have n0 : wr.heap.size ≠ w.heap.size + 1 := by omega
        have nM : M.p ≠ w.heap.size + 1 := by omega
        have bM : M.p < W.heap.size := by omega
        have bl : wr.heap.size < W.heap.size := by omega
        have HW' := Lib.hid hW
        have LW' := Lib.hid lW'
        have ZI := Lib.hid zI
        have ZNX := Lib.hid znx
        have ZBX := Lib.hid zbx
        have awl := Lib.hid (h0.out.away wr.heap.size (.inr lsz))
        have E7 := Lib.hid e7
        have hL0 := Lib.hid hlast
        clear lW' zI znx zbx hlast
        go_wp2_with fail
        rw [← HW'.out]
        refine (choose_any A L c (crashTo S fa L k).2 2 (w.heap.size + 1) w.heap.size fa W ZI.out hC0.out.le (by omega) (by omega) ZNX.out ZBX.out).mono ?_
        rintro e w2 ⟨rfl, n2, g2⟩
        have s0 : w2.cell? ⟨M.p, 0, none⟩ = some (.int .i64 S.size) := (World.cell?_of_block (w := W) (a := ⟨M.p, 0, none⟩) (g2.block _ bM (by simpa using nM))).trans zp
        have s1 : w2.cell? ⟨wr.heap.size, 0, none⟩ = some (.int .i64 (x.1 : Int)) := (World.cell?_of_block (w := W) (a := ⟨wr.heap.size, 0, none⟩) (g2.block _ bl (by simpa using n0))).trans z0
        have s2 : w2.cell? ⟨wr.heap.size, 1, none⟩ = some (.slice (some ⟨gb, 0, none⟩) S.size cb) := (World.cell?_of_block (w := W) (a := ⟨wr.heap.size, 1, none⟩) (g2.block _ bl (by simpa using n0))).trans z1
        have dk := (hC0.out.d.below LW'.out).grown ZNX.out aw.out g2
        have bk := ((E8.out.keep (keepB_below LW'.out)).keep dk.2).bytes
        have gs := g2.size
        have gz1 : base ≤ w2.heap.size := by omega
        have gz2 : wr.heap.size < w2.heap.size := by omega
        have DK := Lib.hid dk
        have BK := Lib.hid bk
        have N2 := Lib.hid n2
        have G2 := Lib.hid g2
        clear dk bk n2 g2 gs HW' hW y3 e5 e6 e0 HC D0 hv1 hc3 y0 e2 e3 e7 z0 z1 zp bM bl
        by_cases h1 : choiceN fa L (crashTo S fa L k).2 2 = 1
        · have qc : (((choiceN fa L (crashTo S fa L k).2 2 : Nat) : Int) == 1) = true := by rw [beq_iff_eq]; omega
          have H1 := Lib.hid h1
          clear h1
          go_wp2
          go_region_held3 (fun w' => w'.cell? ⟨M.p, 0, none⟩ = some (.int .i64 S.size) ∧ w'.cell? ⟨wr.heap.size, 0, none⟩ = some (.int .i64 (x.1 : Int)) ∧ w'.cell? ⟨wr.heap.size, 1, none⟩ = some (.slice (some ⟨gb, 0, none⟩) S.size cb))
            (first | exact ⟨s0, s1, s2⟩ | exact ⟨d3.c0, (World.cell?_of_block (w := w2.drew) (a := ⟨wr.heap.size, 0, none⟩) (t3.block _ gz2 awl.out.1 awl.out.2.1 awl.out.2.2.1 awl.out.2.2.2)).trans s1, (World.cell?_of_block (w := w2.drew) (a := ⟨wr.heap.size, 1, none⟩) (t3.block _ gz2 awl.out.1 awl.out.2.1 awl.out.2.2.1 awl.out.2.2.2)).trans s2⟩ | go_keep)
            (first | (go_at_call 55; refine (settle_any x.1 S.size gb 0 cb x.2 w2.drew base M { S with fast := (crashTo S fa L k).1 } (DK.out.1.below ((Below.refl _ _).drew)) gz1 E7.out (Nat.le_refl _) BK.out hcb).mono ?_; rintro e w3 ⟨rfl, d3, t3, k3⟩))
          have hcr : crashTo S fa L (k + 1) = (upd (crashTo S fa L k).1 x.1 (copyF ((crashTo S fa L k).1 x.1) 0 S.size x.2), nextN L (crashTo S fa L k).2) := by
            simp only [crashTo, e4, if_neg hL0.out, if_pos H1.out]
          have CN := Lib.hid (CI.next hC0.out rfl h0.out LW'.out G2.out DK.out.2 N2.out ((Turns.of_below ((Below.refl w2.heap.size w2).drew)).trans t3) ((keepB_below ((Below.refl w2.heap.size w2).drew)).trans k3) (by rw [hcr]; exact d3) (by rw [hcr]))
          clear hcr d3 t3 k3
          go_wp2
          go_roundw
          case rel => exact ⟨k + 1, by omega, by go_num, CN.out⟩
          case measure => simp [intOf]; omega
        · have qc : (((choiceN fa L (crashTo S fa L k).2 2 : Nat) : Int) == 1) = false := by rw [beq_eq_false_iff_ne]; omega
          have hcr : crashTo S fa L (k + 1) = ((crashTo S fa L k).1, nextN L (crashTo S fa L k).2) := by
            simp only [crashTo, e4, if_neg hL0.out, if_neg h1]
          have CN := Lib.hid (CI.next hC0.out rfl h0.out LW'.out G2.out DK.out.2 N2.out (Turns.refl _ _ _) (KeepB.refl _ _) (by rw [hcr]; exact DK.out.1) (by rw [hcr]))
          clear hcr h1
          go_wp2
          go_roundw
          case rel => exact ⟨k + 1, by omega, by go_num, CN.out⟩
          case measure => simp [intOf]; omega
    · obtain rfl : k = S.loose.length := by omega
      obtain ⟨F, hF⟩ : ∃ F, F = (crashTo S fa L S.loose.length).1 := ⟨_, rfl⟩
      have z0 := hC.d
      rw [← hF] at z0
      have Z0 := Lib.hid z0
      have ZT := Lib.hid hC.t
      have ZK := Lib.hid hC.kb
      have HF := Lib.hid hF
      have y3 := z0.c3
      rw [hv1] at y3
      clear z0 hC hF HC D0
      go_wp2
      go_loopw [57] (fun i wr => ∃ k : Nat, k ≤ S.loose.length ∧ i = .int .i64 k ∧ Dsk wr base M { S with fast := F, now := nowTo F S.now (S.loose.take k) } ∧ Turns base M w wr ∧ KeepB base w wr) (fun i _ => S.loose.length - (intOf i).toNat)
      case atStart => exact ⟨0, Nat.zero_le _, rfl, Z0.out, ZT.out, ZK.out⟩
      case round =>
        obtain ⟨k, hk, rfl, hD, hT, hK⟩ := hrel
        by_cases hlt : k < S.loose.length
        · obtain ⟨g, c', x, v, e1, e2, e3, e4, e5, e6, e7, e8, e0⟩ := hD.looseAt k hlt
          rw [hv1] at e1
          injection e1 with e1 q1 q2
          subst e1
          clear q1 q2
          obtain ⟨a1, a2, a3, rfl⟩ := e8.1.isSlice
          have y1 := hD.c1
          have y2 := hD.c2
          have ltp := (Array.getElem?_eq_some_iff.1 hD.hp).1
          obtain ⟨V, v1, v2⟩ := id hD.vf
          obtain ⟨U, u1, _⟩ := id hD.vn
          have ltf := v1.lt
          have ltn := u1.lt
          have s8 := v2 x.1 e7
          obtain ⟨b1, b2, b3, hb⟩ := s8.isSlice
          have z1 := v1.cell e7
          have z3 := u1.cell (i := x.1) (Nat.lt_of_lt_of_le e7 hD.hC.1)
          have hcn := hD.hC.2
          have z4 := u1.frozen x.1
          rw [hb] at z1 s8
          have e7' : x.1 < S.N := e7
          have hN := h0.out.hN
          obtain ⟨D3, k3⟩ := hD.setNow (k := x.1) s8
          have t3 : Turns base M wr (wr.setCell ⟨M.bn, x.1, none⟩ (.slice b1 b2 b3)) := ⟨rfl, rfl, rfl, by simp [World.setCell], fun j _ _ _ hj _ => Below.heap_setCell _ ⟨M.bn, x.1, none⟩ _ j hj⟩
          have D4 : Dsk (wr.setCell ⟨M.bn, x.1, none⟩ (.slice b1 b2 b3)) base M { S with fast := F, now := nowTo F S.now (S.loose.take (k + 1)) } := by
            have q : nowTo F S.now (S.loose.take (k + 1)) = upd (nowTo F S.now (S.loose.take k)) x.1 (F x.1) := by
              have e4' : S.loose[k]? = some x := e4
              rw [List.take_add_one, e4']
              unfold nowTo
              rw [List.foldl_append]
              rfl
            rw [q]
            exact D3
          have lW : Below _ _ (((wr.setCell ⟨M.bn, x.1, none⟩ (.slice b1 b2 b3)).alloc (.cells #[.int .i64 (x.1 : Int), .slice a1 a2 a3] 111)).drew) := ((Below.refl (wr.setCell ⟨M.bn, x.1, none⟩ (.slice b1 b2 b3)).heap.size (wr.setCell ⟨M.bn, x.1, none⟩ (.slice b1 b2 b3))).alloc (Nat.le_refl _) _).drew
          have DD := Lib.hid (D4.below lW)
          have TT := Lib.hid (hT.trans (t3.trans (Turns.of_below lW)))
          have KK := Lib.hid (hK.trans (k3.trans (keepB_below (base := base) lW)))
          clear D3 D4 t3 k3 hD hT hK lW v1 v2 u1 e8 s8
          go_wp2
          go_region
          go_wp2
          go_roundw
          case rel => exact ⟨k + 1, by omega, by go_num, DD.out, TT.out, KK.out⟩
          case measure => simp [intOf]; omega
        · obtain rfl : k = S.loose.length := by omega
          rw [List.take_length] at hD
          have q3 := hD.c3
          have q4 := hD.c4
          have q5 := hD.c5
          have r3 := hD.frozen 3
          have r4 := hD.frozen 4
          have r5 := hD.frozen 5
          have D1 := hD.noLoose
          have D2 := D1.store 4 (.int .i64 0) { S with fast := F, now := nowTo F S.now S.loose, loose := [], armed := 0 } rfl rfl rfl rfl rfl rfl (by simp)
          have D3 := D2.store 5 (.bool false) { S with fast := F, now := nowTo F S.now S.loose, loose := [], armed := 0, down := false } rfl rfl rfl rfl rfl rfl (by simp)
          have t2 : Turns base M w _ := hT.trans ((Turns.store _ 3 (.slice none 0 0)).trans ((Turns.store _ 4 (.int .i64 0)).trans (Turns.store _ 5 (.bool false))))
          have k2 := hK.trans ((keepB_store (i := 3) (v := .slice none 0 0) hD.hp (by decide)).trans ((keepB_store (i := 4) (v := .int .i64 0) D1.hp (by decide)).trans (keepB_store (i := 5) (v := .bool false) D2.hp (by decide))))
          have DD := Lib.hid D3
          have TT := Lib.hid t2
          have KK := Lib.hid k2
          clear D1 D2 D3 t2 k2 hD hT hK
          go_wp2
          go_end0
          refine ⟨rfl, ?_, TT.out, KK.out⟩
          have hc : crashS S fa L = { S with fast := F, now := nowTo F S.now S.loose, loose := [], armed := 0, down := false } := by unfold crashS; rw [← HF.out]
          rw [hc]
          exact DD.out
end Go.Proofs.Ytmeijienfdefjaa
