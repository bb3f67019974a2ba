/- What holds of the program's disk and of the document's, side by side. -/
import Derived.Test.YtpajedofffnhdaaDRef5
namespace Go.Proofs.Ytpajedofffnhdaa
open Go.RowKit
set_option linter.unusedVariables false

/-- A store into the document's disk in its box leaves the program's disk as it is. -/
theorem On.boxed [Spare] {w wr w' : World} {base : Nat} {M : DM} {S : DS} (h : On w base M S wr) (k : ∀ (j : Nat) (cs : Array Value) (t : TypeId), wr.heap[j]? = some (.cells cs t (0, 0)) → t ≠ 32 → w'.heap[j]? = wr.heap[j]?) (l : Below base w w') (hz : wr.heap.size ≤ w'.heap.size) : On w base M S w' := by
  obtain ⟨V, ⟨c1, v1, _⟩, _⟩ := id h.d.vf
  obtain ⟨U, ⟨c2, u1, _⟩, _⟩ := id h.d.vn
  obtain ⟨vs, _, l2, _⟩ := id h.d.lo
  refine ⟨h.d.keep (k _ _ _ h.d.hp (by decide)) (k _ _ _ v1 (by decide)) (k _ _ _ u1 (by decide)) (fun j hj => ?_) (fun g cs _ hg => (k g cs _ hg (by decide)).trans hg) hz, l, h.z⟩
  rcases l2.2 with ⟨hv, _⟩ | ⟨g, cap, cur, hv, _, hh, _⟩
  · rw [hv] at hj; cases hj
  · rw [hv] at hj
    simp only [Value.ownBlock, Option.some.injEq] at hj
    subst hj
    exact k g cur _ hh (by decide)
theorem six_size (w : World) (b : Nat) (v0 v1 v2 v3 v4 v5 : Value) : (six w b v0 v1 v2 v3 v4 v5).heap.size = w.heap.size := by
  unfold six
  rw [size_set, size_set, size_set, size_set, size_set, size_set]

/-- The two disks, side by side: in one state; the document's lies in block br. -/
structure PI [Spare] (w wr : World) (M : DM) (S : DS) (R : RM) (br : Nat) : Prop where
  o : On w w.heap.size M S wr
  r : RD wr S R
  b : wr.heap[br]? = some (.cells (RCells S R) 32 (0, 0))
  z : w.heap.size ≤ br
  i : NowInv S
theorem PI.below [Spare] {w wr w' : World} {M : DM} {S : DS} {R : RM} {br : Nat} (h : PI w wr M S R br) (l : Below wr.heap.size wr w') : PI w w' M S R br :=
  ⟨h.o.below l, h.r.below l, (l.block _ (Array.getElem?_eq_some_iff.1 h.b).1).trans h.b, h.z, h.i⟩
theorem PI.drew [Spare] {w wr : World} {M : DM} {S : DS} {R : RM} {br : Nat} (h : PI w wr M S R br) : PI w wr.drew M S R br := h.below (Below.refl _ _).drew
/-- Only the program's disk has gone on. -/
structure PD [Spare] (w wr : World) (M : DM) (S' S : DS) (R : RM) (br : Nat) : Prop where
  o : On w w.heap.size M S' wr
  r : RD wr S R
  b : wr.heap[br]? = some (.cells (RCells S R) 32 (0, 0))
  z : w.heap.size ≤ br
  i : NowInv S
theorem PD.below [Spare] {w wr w' : World} {M : DM} {S' S : DS} {R : RM} {br : Nat} (h : PD w wr M S' S R br) (l : Below wr.heap.size wr w') : PD w w' M S' S R br :=
  ⟨h.o.below l, h.r.below l, (l.block _ (Array.getElem?_eq_some_iff.1 h.b).1).trans h.b, h.z, h.i⟩
theorem Dsk.apartR [Spare] {w : World} {base g : Nat} {M : DM} {S : DS} {cs : Array Value} {t : TypeId} (h : Dsk w base M S) (hb : w.heap[g]? = some (.cells cs t (0, 0))) (n1 : t ≠ 64) (n2 : t ≠ 41) (n3 : t ≠ 68) : g ≠ M.p ∧ g ≠ M.bf ∧ g ≠ M.bn ∧ M.vl.ownBlock ≠ some g := by
  obtain ⟨V, ⟨c, cv, _⟩, _⟩ := h.vf
  obtain ⟨U, ⟨c', cu, _⟩, _⟩ := h.vn
  obtain ⟨vs, _, l2, _⟩ := h.lo
  refine ⟨type_ne hb h.hp n1, type_ne hb cv n2, type_ne hb cu n2, fun e => ?_⟩
  rcases l2.2 with ⟨hv, _⟩ | ⟨g, cap, cur, hv, _, hh, _⟩
  · rw [hv] at e; cases e
  · rw [hv] at e
    simp only [Value.ownBlock, Option.some.injEq] at e
    subst e
    exact type_ne hb hh n3 rfl
theorem PI.left [Spare] {w wr w' : World} {M : DM} {S S' : DS} {R : RM} {br : Nat} (h : PI w wr M S R br) (l : Left S' w.heap.size M wr w') : ∃ v', PD w w' { M with vl := v' } S' S R br := by
  obtain ⟨v', o⟩ := h.o.left l
  have t := l.turns
  obtain ⟨a1, a2, a3, a4⟩ := h.o.d.apartR h.b (by decide) (by decide) (by decide)
  exact ⟨v', o, h.r.turns h.o.d t, (t.block _ (Array.getElem?_eq_some_iff.1 h.b).1 a1 a2 a3 a4).trans h.b, h.z, h.i⟩
/-- The document's disk has gone on, too, and has been put into its box. -/
theorem PD.join [Spare] {w wr W : World} {M : DM} {S' S : DS} {R R' : RM} {br : Nat} (h : PD w wr M S' S R br) (l : Below wr.heap.size wr W) (rd : RD W S' R') (hi : NowInv S') :
    PI w (six W br (.int .i64 (S'.N : Int)) (.int .i64 (S'.size : Int)) (.slice (some ⟨R'.g, 0, none⟩) S'.N R'.c) (.slice R'.A S'.loose.length R'.d) (.int .i64 (S'.armed : Int)) (.bool S'.down)) M S' R' br := by
  have hW := h.below l
  exact ⟨hW.o.boxed (fun j cs t hj ht => six_other W br _ _ _ _ _ _ j (type_ne hj hW.b ht)) (below_six hW.o.b h.z _ _ _ _ _ _) (Nat.le_of_eq (six_size _ _ _ _ _ _ _ _).symm), rd.six hW.b _ _ _ _ _ _,
    six_stores W br _ _ _ _ _ _ _ _ _ _ _ _ _ hW.b, h.z, hi⟩
section
variable {w wr : World} {S S' : DS} {R : RM} {br : Nat}
theorem box0 (h : wr.heap[br]? = some (.cells (RCells S R) 32 (0, 0))) : wr.cell? ⟨br, 0, none⟩ = some (.int .i64 (S.N : Int)) := cell_of_row wr br 0 _ _ _ h
theorem box1 (h : wr.heap[br]? = some (.cells (RCells S R) 32 (0, 0))) : wr.cell? ⟨br, 1, none⟩ = some (.int .i64 (S.size : Int)) := cell_of_row wr br 1 _ _ _ h
theorem box2 (h : wr.heap[br]? = some (.cells (RCells S R) 32 (0, 0))) : wr.cell? ⟨br, 2, none⟩ = some (.slice (some ⟨R.g, 0, none⟩) S.N R.c) := cell_of_row wr br 2 _ _ _ h
theorem box3 (h : wr.heap[br]? = some (.cells (RCells S R) 32 (0, 0))) : wr.cell? ⟨br, 3, none⟩ = some (.slice R.A S.loose.length R.d) := cell_of_row wr br 3 _ _ _ h
theorem box4 (h : wr.heap[br]? = some (.cells (RCells S R) 32 (0, 0))) : wr.cell? ⟨br, 4, none⟩ = some (.int .i64 (S.armed : Int)) := cell_of_row wr br 4 _ _ _ h
theorem box5 (h : wr.heap[br]? = some (.cells (RCells S R) 32 (0, 0))) : wr.cell? ⟨br, 5, none⟩ = some (.bool S.down) := cell_of_row wr br 5 _ _ _ h
theorem boxf (h : wr.heap[br]? = some (.cells (RCells S R) 32 (0, 0))) (i : Nat) : wr.frozen? ⟨br, i, none⟩ = false := by simp [World.frozen?, h]
end

theorem PD.arm [Spare] {w wr : World} {M : DM} {S : DS} {R : RM} {br : Nat} {z : Int} (h : PD w wr M (armS S z) S R br) (hz : z ≤ 9223372036854775807) : PI w (wr.setCell ⟨br, 4, none⟩ (.int .i64 ((z.toNat : Nat) : Int))) M (armS S z) R br := by
  have k : ∀ (j : Nat) (cs : Array Value) (t : TypeId), wr.heap[j]? = some (.cells cs t (0, 0)) → t ≠ 32 → (wr.setCell ⟨br, 4, none⟩ (.int .i64 ((z.toNat : Nat) : Int))).heap[j]? = wr.heap[j]? := fun j cs t hj ht => Below.heap_setCell wr ⟨br, 4, none⟩ _ j (type_ne hj h.b ht)
  refine ⟨h.o.boxed k (h.o.b.setCell (p := ⟨br, 4, none⟩) h.z _) (Nat.le_of_eq (size_set _ _ _).symm), (h.r.same (armS S z) rfl rfl rfl rfl (by show z.toNat ≤ _; omega)).boxed k, ?_, h.z, h.i⟩
  exact heap_store wr br 4 _ _ _ h.b

theorem intinfo : (Try.prog.info? 3).map (fun i => (i.zero, i.size, i.bytes)) = some (some (.int .i64 0), 1, 8) := by kernel_rfl
def iCells (fa : Nat → Int) (n : Nat) : List Value := (List.range n).map fun i => .int .i64 (fa i)
theorem iCells_get {fa : Nat → Int} {n j : Nat} {u : Value} (h : (iCells fa n)[j]? = some u) : j < n ∧ u = .int .i64 (fa j) := by
  obtain ⟨hj, e⟩ := List.getElem?_eq_some_iff.1 h
  simp [iCells] at hj e
  exact ⟨hj, e.symm⟩
theorem iCells_one (fa : Nat → Int) (n : Nat) : ∀ u ∈ iCells fa n, u.oneCell' = true := by
  intro u hu
  obtain ⟨k, _, rfl⟩ := List.mem_map.1 hu
  rfl
theorem ActD.ok.src {w w' : World} {x : ActD} (h : x.ok w) (l : Below w.heap.size w w') : (x.fA = none ∧ x.fL = 0 ∧ x.fC = 0) ∨ ∃ ad : Addr, x.fA = some ad ∧ ∀ (j : Nat) (u : Value), (iCells x.fa x.fL)[j]? = some u → w'.cell? (ad.add j) = some u := by
  rcases hA : x.fA with _ | ad
  · obtain ⟨h1, h2⟩ := h.c hA
    exact .inl ⟨rfl, h1, h2⟩
  · refine .inr ⟨ad, rfl, fun j u hu => ?_⟩
    obtain ⟨hj, rfl⟩ := iCells_get hu
    obtain ⟨b, o, e, hc⟩ := (h.f.below l (Nat.le_refl _)).2.2 (by omega)
    rw [hA] at e
    injection e with e
    subst e
    have := hc j hj
    unfold Addr.add
    split
    · rename_i q; subst q; exact this
    · exact this
/-- Ints that an append has gathered. -/
theorem Ints.of_row {w : World} {base n c : Nat} {A : Option Addr} {fa : Nat → Int} (h : w.ownsRow base 3 1 (.slice A n c) n (iCells fa n)) (hb : ∀ i, i < n → -9223372036854775808 ≤ fa i ∧ fa i ≤ 9223372036854775807) (hn : n ≤ 1000000) : Ints w A n fa := by
  refine ⟨by omega, hb, fun h0 => ?_⟩
  rcases h.2 with ⟨_, q⟩ | ⟨g, cap, cur, e1, e2, e3, e4, e5, e6, e7⟩
  · omega
  · injection e1 with r1 r2 r3
    refine ⟨g, 0, r1, fun i hi => ?_⟩
    have q := congrArg (fun l => l[i]?) e7
    simp only [Nat.mul_one] at q
    rw [List.getElem?_take_of_lt hi] at q
    rw [Nat.zero_add, cell_of_row w g i _ _ _ e3, ← Array.getElem?_toList, q]
    unfold iCells
    rw [List.getElem?_map, List.getElem?_range hi]
    rfl
theorem Dsk.apartRow [Spare] {w : World} {base b0 n c : Nat} {A : Option Addr} {fa : Nat → Int} {M : DM} {S : DS} (h : Dsk w base M S) (o : w.ownsRow b0 3 1 (.slice A n c) n (iCells fa n)) : ApartI A n M := by
  intro hn
  rcases o.2 with ⟨_, q⟩ | ⟨g, cap, cur, e1, e2, e3, e4, e5, e6, e7⟩
  · omega
  · injection e1 with r1 r2 r3
    rw [r1]
    exact h.apartI (n := n) e3 hn

theorem five_ints (w : World) : Ints (w.alloc (.cells #[.int .i64 1, .int .i64 1, .int .i64 1, .int .i64 1, .int .i64 1] 3)) (some ⟨w.heap.size, 0, none⟩) 5 (fun _ => 1) := by
  refine ⟨by omega, fun _ _ => ⟨by show (-9223372036854775808 : Int) ≤ 1; decide, by show (1 : Int) ≤ 9223372036854775807; decide⟩, fun _ => ⟨_, _, rfl, fun i hi => ?_⟩⟩
  rw [Nat.zero_add, cell_of_row _ w.heap.size i _ _ _ (heap_alloc_new w _)]
  match i, hi with
  | 0, _ => rfl
  | 1, _ => rfl
  | 2, _ => rfl
  | 3, _ => rfl
  | 4, _ => rfl
theorem crash_five [Spare] (base : Nat) (M : DM) (S : DS) (w : World) (h : Dsk w base M S) (hb : base ≤ w.heap.size) :
    Calls Try.prog 19 #[.pointer (some ⟨M.p, 0, none⟩), .slice (some ⟨w.heap.size, 0, none⟩) 5 5] (w.alloc (.cells #[.int .i64 1, .int .i64 1, .int .i64 1, .int .i64 1, .int .i64 1] 3)) fun e w' => e = .returned (.tuple #[]) ∧ Left (crashS S (fun _ => 1) 5) base M w w' := by
  have l1 : Below w.heap.size w (w.alloc (.cells #[.int .i64 1, .int .i64 1, .int .i64 1, .int .i64 1, .int .i64 1] 3)) := (Below.refl _ _).alloc (Nat.le_refl _) _
  have h2 := h.below l1
  refine (crash_any (some ⟨w.heap.size, 0, none⟩) 5 5 (fun _ => 1) _ base M S h2 (Nat.le_trans hb l1.size) (five_ints w) (h2.apartI (cs := #[.int .i64 1, .int .i64 1, .int .i64 1, .int .i64 1, .int .i64 1]) (heap_alloc_new w _))).mono ?_
  rintro e w' ⟨rfl, d, t, k⟩
  exact ⟨rfl, Left.behind l1 (Left.none_ d t k)⟩

set_option maxRecDepth 100000 in
set_option maxHeartbeats 4000000 in
theorem diskPlays_main [Spare] (N size : Nat) (A : Option Addr) (n c : Nat) (X : Nat → ActD) (w : World) (hX : Acts w A n X) (hN : 1 ≤ N ∧ N ≤ 8) (hS : 64 ≤ size ∧ size ≤ 4096) (hn : n ≤ 40) (hB : true = lightB n X) (hE : ∀ g, w.heap.size ≤ g → Spare.ok g) :
    Calls Try.prog 3 #[.int .i64 N, .int .i64 size, .slice A n c] w fun e w' => e = .returned (.bool true) ∧ Below w.heap.size w w' := by
  have KX := Lib.hid hX
  have HB := Lib.hid hB
  have HE := Lib.hid hE
  have d8 : decide (8 < (N : Int)) = false := by rw [decide_eq_false_iff_not]; omega
  have d8' : decide (8 < N) = false := by rw [decide_eq_false_iff_not]; omega
  clear hX hB hE
  go_enter Try.func3, Try.ntmps3
  go_wp2_with fail
  refine (light_any A n c X w KX.out).mono ?_
  rintro e w' ⟨rfl, rfl⟩
  rw [← HB.out]
  go_wp2_with fail
  refine (new_ok N size w (by omega) (by omega) HE.out).mono ?_
  rintro e w1 ⟨M0, rfl, dd1, l1⟩
  have O1 := Lib.hid (show On w w.heap.size M0 (newS N size) w1 from ⟨dd1, l1, Nat.le_refl _⟩)
  clear dd1 l1
  go_wp2_with fail
  refine (refRight_yes N size w1 (by omega) (by omega) (by omega) (by omega)).mono ?_
  rintro e w' ⟨rfl, rfl⟩
  go_wp2_with fail
  refine (refNew_any N size w1 hN hS).mono ?_
  rintro e w2 ⟨R0, rfl, r2, l2⟩
  have O2 := Lib.hid (O1.out.below l2)
  have R2 := Lib.hid r2
  clear r2 l2 O1
  unfold RCells
  go_upto_region 7 with (fail)
  have HP := Lib.hid (show PI w (w2.alloc (.cells (RCells (newS N size) R0) 32)) M0 (newS N size) R0 w2.heap.size from
    ⟨O2.out.below ((Below.refl _ _).alloc (Nat.le_refl _) _), R2.out.below ((Below.refl _ _).alloc (Nat.le_refl _) _), heap_alloc_new w2 _, O2.out.b.size, NowInv.new N size⟩)
  unfold RCells at HP
  generalize w2.alloc (.cells #[.int .i64 ((newS N size).N : Int), .int .i64 ((newS N size).size : Int), .slice (some ⟨R0.g, 0, none⟩) (newS N size).N R0.c, .slice R0.A (newS N size).loose.length R0.d, .int .i64 ((newS N size).armed : Int), .bool (newS N size).down] 32) = W3 at HP ⊢
  obtain ⟨br, hbr⟩ : ∃ br, br = w2.heap.size := ⟨_, rfl⟩
  rw [← hbr] at HP ⊢
  clear hbr O2 R2 d8 d8'
  go_wp2
  go_loopw [9] (fun i wr => ∃ k : Nat, k ≤ n ∧ i = .int .i64 k ∧ ∃ v' R, PI w wr { M0 with vl := v' } (runS (newS N size) X k) R br) (fun i _ => n - (intOf i).toNat)
  case atStart => exact ⟨0, Nat.zero_le _, rfl, M0.vl, R0, HP.out⟩
  case round =>
    obtain ⟨k, hk, rfl, v', R, hp⟩ := hrel
    have HK := Lib.hid hp
    clear hp HP
    by_cases hlt : k < n
    · obtain ⟨b, o, rfl, hc⟩ := KX.out.2.2 (by omega)
      have hck := (hc k hlt).keep (HK.out.o.b.block b (hc k hlt).blk)
      have ok0 := (KX.out.2.1 k hlt).below HK.out.o.b (Nat.le_refl _)
      obtain ⟨S, hS0⟩ : ∃ S, S = runS (newS N size) X k := ⟨_, rfl⟩
      obtain ⟨x, hx0⟩ : ∃ x, x = X k := ⟨_, rfl⟩
      have NS := Lib.hid (show S.N = N ∧ S.size = size ∧ S.loose.length < 1000000 from by
        rw [hS0]
        have q := runS_N (newS N size) X k
        exact ⟨q.1, q.2.1, by have := q.2.2; have e : (newS N size).loose.length = 0 := rfl; omega⟩)
      have NX := Lib.hid (show runS (newS N size) X (k + 1) = didS S x by rw [hS0, hx0]; rfl)
      rw [← hS0] at HK
      rw [← hx0] at hck ok0
      have OK := Lib.hid ok0
      have HXK := Lib.hid hx0.symm
      have F60 := Lib.hid (show x.fL ≤ 60 by have := HB.out; unfold lightB at this; rw [hx0]; exact (of_decide_eq_true this.symm).2 k hlt)
      have kk := Lib.hid (kind_go x.kind ok0.k)
      have D8 := Lib.hid (fun (e : Nat) (he : kind7 x = e) => show didS S x = (if e = 3 then flushD S else if e = 4 then S else if e = 5 then armS S x.at_ else if e = 6 then crashS S x.fa x.fL else putS S x.at_ (lenN x S.size) (actF x.b (lenN x S.size))) by unfold didS; rw [he])
      have y0 := hck.c0
      have y1 := hck.c1
      have y2 := hck.c2
      have y3 := hck.c3
      have y4 := hck.c4
      have lt7 : kind7 x < 7 := by unfold kind7; omega
      have kk2 : Hid ((wrap64 (x.kind.tmod 7 + 7)).tmod 7 = ((kind7 x : Nat) : Int)) := kk
      obtain ⟨mk, hmk⟩ : ∃ mk, mk = kind7 x := ⟨_, rfl⟩
      rw [← hmk] at kk2 lt7
      have D9 := Lib.hid (D8.out mk hmk.symm)
      clear hc hck ok0 hS0 hx0 kk D8 hmk
      have mka : Hid (((mk : Nat) : Int) = (mk : Int)) := Lib.hid rfl
      obtain ⟨W1, hW1⟩ : ∃ W1, W1 = wr.alloc (.cells x.cells 36) := ⟨_, rfl⟩
      have l1 : Below wr.heap.size wr W1 := by rw [hW1]; exact (Below.refl _ _).alloc (Nat.le_refl _) _
      have HK1 := Lib.hid (HK.out.below l1)
      have HX1 := Lib.hid (show W1.heap[wr.heap.size]? = some (.cells x.cells 36 (0, 0)) by rw [hW1]; exact heap_alloc_new wr _)
      have OK1 := Lib.hid (OK.out.below l1 (Nat.le_refl _))
      unfold ActD.cells at hW1
      have HW1 := Lib.hid hW1
      clear hW1 l1
      by_cases m3 : mk = 3
      · have q3 : ((wrap64 (x.kind.tmod 7 + 7)).tmod 7 == 3) = true := by rw [kk2.out, m3]; rfl
        have DE := Lib.hid (D9.out.trans (if_pos m3))
        clear m3 D9 kk2 mka lt7
        go_wp2_with fail
        rw [← HW1.out]
        refine (flush_any W1 w.heap.size { M0 with vl := v' } S HK1.out.o.d).mono ?_
        rintro e W2 ⟨rfl, LF⟩
        obtain ⟨v2, pd⟩ := HK1.out.left LF
        have PD2 := Lib.hid pd
        clear pd LF
        have a0 := box0 PD2.out.b
        have a1 := box1 PD2.out.b
        have a2 := box2 PD2.out.b
        have a3 := box3 PD2.out.b
        have a4 := box4 PD2.out.b
        have a5 := box5 PD2.out.b
        have RF := Lib.hid (refFlush_any W2 S R PD2.out.r)
        unfold RCells at RF
        go_wp2_with fail
        refine RF.out.mono ?_
        rintro e W3 ⟨R', rfl, rd, l3⟩
        unfold RCells
        clear RF a0 a1 a2 a3 a4 a5
        have PD3 := Lib.hid (PD2.out.below l3)
        obtain ⟨S2, hS2⟩ : ∃ S2, S2 = flushD S := ⟨_, rfl⟩
        obtain ⟨er, her⟩ : ∃ er, er = flushI S := ⟨_, rfl⟩
        have PJ := Lib.hid (PD2.out.join l3 rd ((HK1.out.i.did x) |> fun q => by rw [DE.out] at q; exact q))
        rw [← hS2] at PJ PD3 ⊢
        rw [← her]
        have NT := Lib.hid (show S2.N = N ∧ S2.size = size by rw [hS2, ← DE.out, didS_N, didS_size]; exact ⟨NS.out.1, NS.out.2.1⟩)
        have NXT := Lib.hid (show runS (newS N size) X (k + 1) = S2 by rw [NX.out, DE.out, hS2])
        have a0 := box0 PD3.out.b
        have a1 := box1 PD3.out.b
        have a2 := box2 PD3.out.b
        have a3 := box3 PD3.out.b
        have a4 := box4 PD3.out.b
        have a5 := box5 PD3.out.b
        have b0 := boxf PD3.out.b 0
        have b1 := boxf PD3.out.b 1
        have b2 := boxf PD3.out.b 2
        have b3 := boxf PD3.out.b 3
        have b4 := boxf PD3.out.b 4
        have b5 := boxf PD3.out.b 5
        have lb : br < W3.heap.size := (Array.getElem?_eq_some_iff.1 PD3.out.b).1
        clear rd l3 hS2 her
        go_upto_region 22 with (fail)
        have HT := Lib.hid (PJ.out.below ((Below.refl _ _).alloc (Nat.le_refl _) (.cells #[.int .i64 ((S2).N : Int), .int .i64 ((S2).size : Int), .slice (some ⟨R'.g, 0, none⟩) (S2).N R'.c, .slice R'.A (S2).loose.length R'.d, .int .i64 ((S2).armed : Int), .bool (S2).down] 32)))
        unfold six at HT
        generalize ((((((W3.setCell ⟨br, 0, none⟩ (.int .i64 ((S2).N : Int))).setCell ⟨br, 1, none⟩ (.int .i64 ((S2).size : Int))).setCell ⟨br, 2, none⟩ (.slice (some ⟨R'.g, 0, none⟩) (S2).N R'.c)).setCell ⟨br, 3, none⟩ (.slice R'.A (S2).loose.length R'.d)).setCell ⟨br, 4, none⟩ (.int .i64 ((S2).armed : Int))).setCell ⟨br, 5, none⟩ (.bool (S2).down)).alloc (.cells #[.int .i64 ((S2).N : Int), .int .i64 ((S2).size : Int), .slice (some ⟨R'.g, 0, none⟩) (S2).N R'.c, .slice R'.A (S2).loose.length R'.d, .int .i64 ((S2).armed : Int), .bool (S2).down] 32) = WT at HT ⊢
        clear a0 a1 a2 a3 a4 a5 b0 b1 b2 b3 b4 b5 lb PJ PD3 PD2
        have qe : (er != er) = false := by simp
        go_upto_region 35 with (fail)
        have e5 := box5 HT.out.b
        have e3 := box3 HT.out.b
        have SE := Lib.hid (show Calls Try.prog 10 #[.pointer (some ⟨M0.p, 0, none⟩)] WT.drew fun e w' => e = .returned (.int .i64 (N : Int)) ∧ WT.drew = w' by have q := sectors_any WT.drew w.heap.size { M0 with vl := v2 } S2 HT.out.drew.o.d; rw [NT.out.1] at q; exact q)
        have SZ := Lib.hid (show Calls Try.prog 11 #[.pointer (some ⟨M0.p, 0, none⟩)] WT.drew fun e w' => e = .returned (.int .i64 (size : Int)) ∧ WT.drew = w' by have q := size_any WT.drew w.heap.size { M0 with vl := v2 } S2 HT.out.drew.o.d; rw [NT.out.2] at q; exact q)
        go_wp2
        go_region_held_law (fun W => W.cell? ⟨br, 5, none⟩ = some (.bool S2.down) ∧ W.cell? ⟨br, 3, none⟩ = some (.slice R'.A S2.loose.length R'.d))
          (first | exact ⟨e5, e3⟩ | go_keep)
          (first
            | (go_at_call 24; refine (down_any _ w.heap.size { M0 with vl := v2 } S2 HT.out.drew.o.d).mono ?_; rintro e W9 ⟨rfl, rfl⟩)
            | (go_at_call 25; refine (loose_any _ w.heap.size { M0 with vl := v2 } S2 HT.out.drew.o.d).mono ?_; rintro e W9 ⟨rfl, rfl⟩)
            | (go_at_call 10; refine SE.out.mono ?_; rintro e W9 ⟨rfl, rfl⟩)
            | (go_at_call 11; refine SZ.out.mono ?_; rintro e W9 ⟨rfl, rfl⟩))
        have HTD := Lib.hid HT.out.drew
        clear e5 e3
        go_wp2
        go_roundw
        case rel => exact ⟨k + 1, by omega, by go_num, v2, R', by rw [NXT.out]; exact HTD.out⟩
        case measure => simp [intOf]; omega
      · by_cases m4 : mk = 4
        · have q3 : ((wrap64 (x.kind.tmod 7 + 7)).tmod 7 == 3) = false := by rw [kk2.out]; rw [beq_eq_false_iff_ne]; omega
          have q4 : ((wrap64 (x.kind.tmod 7 + 7)).tmod 7 == 4) = true := by rw [kk2.out]; rw [m4]; rfl
          have DE := Lib.hid (D9.out.trans ((if_neg m3).trans (if_pos m4)))
          clear m3 m4 D9 kk2 mka lt7
          go_wp2_with fail
          rw [← HW1.out]
          refine (read_any x.at_ W1 w.heap.size { M0 with vl := v' } S HK1.out.o.d).mono ?_
          rintro e W2 ⟨A3, d3, rfl, bb, l2⟩
          have HK2 := Lib.hid (HK1.out.below l2)
          have z1 : W2.cell? ⟨wr.heap.size, 1, none⟩ = some (.int .i64 x.at_) := cell_of_row W2 _ 1 _ _ _ ((l2.block _ (Array.getElem?_eq_some_iff.1 HX1.out).1).trans HX1.out)
          have BB := Lib.hid bb
          clear bb l2
          have a0 := box0 HK2.out.b
          have a1 := box1 HK2.out.b
          have a2 := box2 HK2.out.b
          have a3 := box3 HK2.out.b
          have a4 := box4 HK2.out.b
          have a5 := box5 HK2.out.b
          have RF := Lib.hid (refRead_any x.at_ W2 S R HK2.out.r HK2.out.i)
          unfold RCells at RF
          go_wp2_with fail
          refine RF.out.mono ?_
          rintro e WT ⟨rfl, l3⟩
          have HT := Lib.hid (HK2.out.below l3)
          obtain ⟨S2, hS2⟩ : ∃ S2, S2 = S := ⟨_, rfl⟩
          have NT := Lib.hid (show S2.N = N ∧ S2.size = size by rw [hS2, ← DE.out, didS_N, didS_size]; exact ⟨NS.out.1, NS.out.2.1⟩)
          have NXT := Lib.hid (show runS (newS N size) X (k + 1) = S2 by rw [NX.out, DE.out, hS2])
          have cv1 := conv_any d3 (BB.out.below l3 (Nat.le_refl _))
          obtain ⟨nn, hnn⟩ : ∃ nn, nn = readN S x.at_ := ⟨_, rfl⟩
          obtain ⟨er, her⟩ : ∃ er, er = reachI S x.at_ := ⟨_, rfl⟩
          obtain ⟨st, hst⟩ : ∃ st, st = strF (S.now x.at_.toNat) nn := ⟨_, rfl⟩
          rw [← hnn, ← hst] at cv1
          rw [← hnn, ← her, ← hst]
          have q1 : (er != er) = false := by simp
          have q2 : (!(st.toList == st.toList)) = false := by simp
          rw [← hS2] at HT
          clear a0 a1 a2 a3 a4 a5 RF l3 BB hnn her hst hS2 z1
          go_upto_region 35 with (fail)
          clear cv1
          have e5 := box5 HT.out.b
          have e3 := box3 HT.out.b
          have SE := Lib.hid (show Calls Try.prog 10 #[.pointer (some ⟨M0.p, 0, none⟩)] WT.drew fun e w' => e = .returned (.int .i64 (N : Int)) ∧ WT.drew = w' by have q := sectors_any WT.drew w.heap.size { M0 with vl := v' } S2 HT.out.drew.o.d; rw [NT.out.1] at q; exact q)
          have SZ := Lib.hid (show Calls Try.prog 11 #[.pointer (some ⟨M0.p, 0, none⟩)] WT.drew fun e w' => e = .returned (.int .i64 (size : Int)) ∧ WT.drew = w' by have q := size_any WT.drew w.heap.size { M0 with vl := v' } S2 HT.out.drew.o.d; rw [NT.out.2] at q; exact q)
          go_wp2
          go_region_held_law (fun W => W.cell? ⟨br, 5, none⟩ = some (.bool S2.down) ∧ W.cell? ⟨br, 3, none⟩ = some (.slice R.A S2.loose.length R.d))
            (first | exact ⟨e5, e3⟩ | go_keep)
            (first
              | (go_at_call 24; refine (down_any _ w.heap.size { M0 with vl := v' } S2 HT.out.drew.o.d).mono ?_; rintro e W9 ⟨rfl, rfl⟩)
              | (go_at_call 25; refine (loose_any _ w.heap.size { M0 with vl := v' } S2 HT.out.drew.o.d).mono ?_; rintro e W9 ⟨rfl, rfl⟩)
              | (go_at_call 10; refine SE.out.mono ?_; rintro e W9 ⟨rfl, rfl⟩)
              | (go_at_call 11; refine SZ.out.mono ?_; rintro e W9 ⟨rfl, rfl⟩))
          have HTD := Lib.hid HT.out.drew
          clear e5 e3
          go_wp2
          go_roundw
          case rel => exact ⟨k + 1, by omega, by go_num, v', R, by rw [NXT.out]; exact HTD.out⟩
          case measure => simp [intOf]; omega
        · by_cases m5 : mk = 5
          · have q3 : ((wrap64 (x.kind.tmod 7 + 7)).tmod 7 == 3) = false := by rw [kk2.out]; rw [beq_eq_false_iff_ne]; omega
            have q4 : ((wrap64 (x.kind.tmod 7 + 7)).tmod 7 == 4) = false := by rw [kk2.out]; rw [beq_eq_false_iff_ne]; omega
            have q5 : ((wrap64 (x.kind.tmod 7 + 7)).tmod 7 == 5) = true := by rw [kk2.out]; rw [m5]; rfl
            have DE := Lib.hid (D9.out.trans ((if_neg m3).trans ((if_neg m4).trans (if_pos m5))))
            clear m3 m4 m5 D9 kk2 mka lt7
            go_wp2_with fail
            rw [← HW1.out]
            refine (arm_any x.at_ W1 w.heap.size { M0 with vl := v' } S HK1.out.o.d OK1.out.a.2).mono ?_
            rintro e W2 ⟨rfl, ad, at1, ak⟩
            have z1 : W2.cell? ⟨wr.heap.size, 1, none⟩ = some (.int .i64 x.at_) := by
              obtain ⟨e1, e2, e3, e4⟩ := HK1.out.o.d.apartR HX1.out (by decide) (by decide) (by decide)
              exact cell_of_row W2 _ 1 _ _ _ ((at1.block _ (Array.getElem?_eq_some_iff.1 HX1.out).1 e1 e2 e3 e4).trans HX1.out)
            obtain ⟨v2, pd⟩ := HK1.out.left (Left.same ad at1 ak)
            have PJ := Lib.hid (pd.arm OK1.out.a.2)
            have a4 := box4 pd.b
            have b4 := boxf pd.b 4
            obtain ⟨S2, hS2⟩ : ∃ S2, S2 = armS S x.at_ := ⟨_, rfl⟩
            have NT := Lib.hid (show S2.N = N ∧ S2.size = size by rw [hS2, ← DE.out, didS_N, didS_size]; exact ⟨NS.out.1, NS.out.2.1⟩)
            have NXT := Lib.hid (show runS (newS N size) X (k + 1) = S2 by rw [NX.out, DE.out, hS2])
            rw [← hS2] at PJ
            clear pd ad at1 ak hS2
            go_upto_region 35 with (fail)
            rw [show (if x.at_ < 0 then 0 else x.at_) = ((x.at_.toNat : Nat) : Int) by split <;> omega]
            have HT := Lib.hid PJ.out
            generalize W2.setCell ⟨br, 4, none⟩ (.int .i64 ((x.at_.toNat : Nat) : Int)) = WT at HT ⊢
            clear PJ z1 a4 b4
            have e5 := box5 HT.out.b
            have e3 := box3 HT.out.b
            have SE := Lib.hid (show Calls Try.prog 10 #[.pointer (some ⟨M0.p, 0, none⟩)] WT.drew fun e w' => e = .returned (.int .i64 (N : Int)) ∧ WT.drew = w' by have q := sectors_any WT.drew w.heap.size { M0 with vl := v2 } S2 HT.out.drew.o.d; rw [NT.out.1] at q; exact q)
            have SZ := Lib.hid (show Calls Try.prog 11 #[.pointer (some ⟨M0.p, 0, none⟩)] WT.drew fun e w' => e = .returned (.int .i64 (size : Int)) ∧ WT.drew = w' by have q := size_any WT.drew w.heap.size { M0 with vl := v2 } S2 HT.out.drew.o.d; rw [NT.out.2] at q; exact q)
            go_wp2
            go_region_held_law (fun W => W.cell? ⟨br, 5, none⟩ = some (.bool S2.down) ∧ W.cell? ⟨br, 3, none⟩ = some (.slice R.A S2.loose.length R.d))
              (first | exact ⟨e5, e3⟩ | go_keep)
              (first
                | (go_at_call 24; refine (down_any _ w.heap.size { M0 with vl := v2 } S2 HT.out.drew.o.d).mono ?_; rintro e W9 ⟨rfl, rfl⟩)
                | (go_at_call 25; refine (loose_any _ w.heap.size { M0 with vl := v2 } S2 HT.out.drew.o.d).mono ?_; rintro e W9 ⟨rfl, rfl⟩)
                | (go_at_call 10; refine SE.out.mono ?_; rintro e W9 ⟨rfl, rfl⟩)
                | (go_at_call 11; refine SZ.out.mono ?_; rintro e W9 ⟨rfl, rfl⟩))
            have HTD := Lib.hid HT.out.drew
            clear e5 e3
            go_wp2
            go_roundw
            case rel => exact ⟨k + 1, by omega, by go_num, v2, R, by rw [NXT.out]; exact HTD.out⟩
            case measure => simp [intOf]; omega
          · by_cases m6 : mk = 6
            · have q3 : ((wrap64 (x.kind.tmod 7 + 7)).tmod 7 == 3) = false := by rw [kk2.out]; rw [beq_eq_false_iff_ne]; omega
              have q4 : ((wrap64 (x.kind.tmod 7 + 7)).tmod 7 == 4) = false := by rw [kk2.out]; rw [beq_eq_false_iff_ne]; omega
              have q5 : ((wrap64 (x.kind.tmod 7 + 7)).tmod 7 == 5) = false := by rw [kk2.out]; rw [beq_eq_false_iff_ne]; omega
              have q6 : ((wrap64 (x.kind.tmod 7 + 7)).tmod 7 == 6) = true := by rw [kk2.out]; rw [m6]; rfl
              have DE := Lib.hid (D9.out.trans ((if_neg m3).trans ((if_neg m4).trans ((if_neg m5).trans (if_pos m6)))))
              have LW := Lib.hid ((Below.refl W1.heap.size W1).alloc (Nat.le_refl _) (.cells #[] 3))
              have HO := Lib.hid (World.ownsRow_lit (e := 3) (size := 1) W1 #[] 0 (Nat.le_refl _) (by unfold maxLen; omega) rfl)
              have SC := Lib.hid (OK1.out.src LW.out)
              have SC2 := Lib.hid (iCells_one x.fa x.fL)
              obtain ⟨i0, hi0, hz0, hz1, hz2⟩ := info_parts intinfo
              have HI := Lib.hid (And.intro hi0 (And.intro hz0 (And.intro hz1 hz2)))
              have hf60 : x.fL ≤ 60 := F60.out
              clear m3 m4 m5 m6 D9 kk2 mka lt7 hi0 hz0 hz1 hz2
              go_upto_region 33 with (fail)
              rw [← HW1.out]
              have z4 : (W1.alloc (.cells #[] 3)).cell? ⟨wr.heap.size, 4, none⟩ = some (.slice x.fA x.fL x.fC) := cell_of_row _ _ 4 _ _ _ ((LW.out.block _ (Array.getElem?_eq_some_iff.1 HX1.out).1).trans HX1.out)
              go_wp2_with (at_builtin; refine wpList_append_ad _ rfl (.tmp 150) (.tmp 152) 34 rfl W1.heap.size 3 i0 (.int .i64 0) 1 8 Try.underlying34 HI.out.1 HI.out.2.1 HI.out.2.2.1 HI.out.2.2.2 rfl (by omega) _ 0 [] rfl HO.out _ _ _ (iCells x.fa x.fL) rfl (by simp [iCells]) SC.out SC2.out x.fL (Nat.zero_add _) (iCells x.fa x.fL) rfl (by omega) (by omega) (by simp) ?_)
              intro A5 c5 W5 o5 g5
              have l5 : Below W1.heap.size W1 W5 := LW.out.grown g5.out (by simp) (by rintro j ⟨⟩; exact Nat.le_refl _)
              have HK5 := Lib.hid (HK1.out.below l5)
              have X5 := Lib.hid ((l5.block _ (Array.getElem?_eq_some_iff.1 HX1.out).1).trans HX1.out)
              have I5 := Lib.hid (Ints.of_row o5.out OK1.out.f.2.1 (by omega))
              have AP := Lib.hid (HK5.out.o.d.apartRow o5.out)
              have OK5 := Lib.hid (OK1.out.below l5 (Nat.le_refl _))
              clear l5 o5 g5 SC SC2 HO z4
              go_wp2_with fail
              refine (crash_any A5 x.fL c5 x.fa W5 w.heap.size { M0 with vl := v' } S HK5.out.o.d HK5.out.o.le I5.out AP.out).mono ?_
              rintro e W2 ⟨rfl, cd, ct, ck⟩
              have z4 : W2.cell? ⟨wr.heap.size, 4, none⟩ = some (.slice x.fA x.fL x.fC) := by
                obtain ⟨e1, e2, e3, e4⟩ := HK5.out.o.d.apartR X5.out (by decide) (by decide) (by decide)
                exact cell_of_row W2 _ 4 _ _ _ ((ct.block _ (Array.getElem?_eq_some_iff.1 X5.out).1 e1 e2 e3 e4).trans X5.out)
              have I2 := Lib.hid (show Ints W2 x.fA x.fL x.fa from OK5.out.f.turns ((KX.out.2.1 k hlt) |> fun q => by rw [HXK.out] at q; exact q.f.apart (Nat.le_refl _) HK5.out.o.d) ct)
              obtain ⟨v2, pd⟩ := HK5.out.left (Left.none_ cd ct ck)
              have PD2 := Lib.hid pd
              clear pd cd ct ck
              have a0 := box0 PD2.out.b
              have a1 := box1 PD2.out.b
              have a2 := box2 PD2.out.b
              have a3 := box3 PD2.out.b
              have a4 := box4 PD2.out.b
              have a5 := box5 PD2.out.b
              have RF := Lib.hid (refCrash_any x.fA x.fL x.fC x.fa W2 S R PD2.out.r I2.out)
              unfold RCells at RF
              go_wp2_with fail
              refine RF.out.mono ?_
              rintro e W3 ⟨R', rfl, rd, l3⟩
              unfold RCells
              clear RF a0 a1 a2 a3 a4 a5 z4
              have PD3 := Lib.hid (PD2.out.below l3)
              obtain ⟨S2, hS2⟩ : ∃ S2, S2 = crashS S x.fa x.fL := ⟨_, rfl⟩
              have PJ := Lib.hid (PD2.out.join l3 rd ((HK1.out.i.did x) |> fun q => by rw [DE.out] at q; exact q))
              rw [← hS2] at PJ PD3 ⊢
              have NT := Lib.hid (show S2.N = N ∧ S2.size = size by rw [hS2, ← DE.out, didS_N, didS_size]; exact ⟨NS.out.1, NS.out.2.1⟩)
              have NXT := Lib.hid (show runS (newS N size) X (k + 1) = S2 by rw [NX.out, DE.out, hS2])
              have a0 := box0 PD3.out.b
              have a1 := box1 PD3.out.b
              have a2 := box2 PD3.out.b
              have a3 := box3 PD3.out.b
              have a4 := box4 PD3.out.b
              have a5 := box5 PD3.out.b
              have b0 := boxf PD3.out.b 0
              have b1 := boxf PD3.out.b 1
              have b2 := boxf PD3.out.b 2
              have b3 := boxf PD3.out.b 3
              have b4 := boxf PD3.out.b 4
              have b5 := boxf PD3.out.b 5
              clear rd l3 hS2
              go_upto_region 35 with (fail)
              have HT := Lib.hid PJ.out
              unfold six at HT
              generalize (((((W3.setCell ⟨br, 0, none⟩ (.int .i64 ((S2).N : Int))).setCell ⟨br, 1, none⟩ (.int .i64 ((S2).size : Int))).setCell ⟨br, 2, none⟩ (.slice (some ⟨R'.g, 0, none⟩) (S2).N R'.c)).setCell ⟨br, 3, none⟩ (.slice R'.A (S2).loose.length R'.d)).setCell ⟨br, 4, none⟩ (.int .i64 ((S2).armed : Int))).setCell ⟨br, 5, none⟩ (.bool (S2).down) = WT at HT ⊢
              clear a0 a1 a2 a3 a4 a5 b0 b1 b2 b3 b4 b5 PJ PD3 PD2 I2 I5 AP
              have e5 := box5 HT.out.b
              have e3 := box3 HT.out.b
              have SE := Lib.hid (show Calls Try.prog 10 #[.pointer (some ⟨M0.p, 0, none⟩)] WT.drew fun e w' => e = .returned (.int .i64 (N : Int)) ∧ WT.drew = w' by have q := sectors_any WT.drew w.heap.size { M0 with vl := v2 } S2 HT.out.drew.o.d; rw [NT.out.1] at q; exact q)
              have SZ := Lib.hid (show Calls Try.prog 11 #[.pointer (some ⟨M0.p, 0, none⟩)] WT.drew fun e w' => e = .returned (.int .i64 (size : Int)) ∧ WT.drew = w' by have q := size_any WT.drew w.heap.size { M0 with vl := v2 } S2 HT.out.drew.o.d; rw [NT.out.2] at q; exact q)
              go_wp2
              go_region_held_law (fun W => W.cell? ⟨br, 5, none⟩ = some (.bool S2.down) ∧ W.cell? ⟨br, 3, none⟩ = some (.slice R'.A S2.loose.length R'.d))
                (first | exact ⟨e5, e3⟩ | go_keep)
                (first
                  | (go_at_call 24; refine (down_any _ w.heap.size { M0 with vl := v2 } S2 HT.out.drew.o.d).mono ?_; rintro e W9 ⟨rfl, rfl⟩)
                  | (go_at_call 25; refine (loose_any _ w.heap.size { M0 with vl := v2 } S2 HT.out.drew.o.d).mono ?_; rintro e W9 ⟨rfl, rfl⟩)
                  | (go_at_call 10; refine SE.out.mono ?_; rintro e W9 ⟨rfl, rfl⟩)
                  | (go_at_call 11; refine SZ.out.mono ?_; rintro e W9 ⟨rfl, rfl⟩))
              have HTD := Lib.hid HT.out.drew
              clear e5 e3
              go_wp2
              go_roundw
              case rel => exact ⟨k + 1, by omega, by go_num, v2, R', by rw [NXT.out]; exact HTD.out⟩
              case measure => simp [intOf]; omega
            · have q3 : ((wrap64 (x.kind.tmod 7 + 7)).tmod 7 == 3) = false := by rw [kk2.out]; rw [beq_eq_false_iff_ne]; omega
              have q4 : ((wrap64 (x.kind.tmod 7 + 7)).tmod 7 == 4) = false := by rw [kk2.out]; rw [beq_eq_false_iff_ne]; omega
              have q5 : ((wrap64 (x.kind.tmod 7 + 7)).tmod 7 == 5) = false := by rw [kk2.out]; rw [beq_eq_false_iff_ne]; omega
              have q6 : ((wrap64 (x.kind.tmod 7 + 7)).tmod 7 == 6) = false := by rw [kk2.out]; rw [beq_eq_false_iff_ne]; omega
              have DE := Lib.hid (D9.out.trans ((if_neg m3).trans ((if_neg m4).trans ((if_neg m5).trans (if_neg m6)))))
              clear m3 m4 m5 m6 D9 kk2 mka lt7
              have BY := Lib.hid (bytes_any x size W1 OK1.out.b (by omega))
              unfold ActD.cells at BY
              obtain ⟨ln, hln⟩ : ∃ ln, ln = lenN x size := ⟨_, rfl⟩
              rw [← hln] at BY
              have HLN := Lib.hid hln
              have hln5 : ln ≤ 5000 := by rw [hln]; unfold lenN; split <;> omega
              clear hln
              go_wp2_with fail
              rw [← HW1.out]
              refine BY.out.mono ?_
              rintro e W2 ⟨rfl, r2, l2⟩
              have HK2 := Lib.hid (HK1.out.below l2)
              have X2 := Lib.hid ((l2.block _ (Array.getElem?_eq_some_iff.1 HX1.out).1).trans HX1.out)
              have z1 : W2.cell? ⟨wr.heap.size, 1, none⟩ = some (.int .i64 x.at_) := cell_of_row W2 _ 1 _ _ _ X2.out
              have RB2 := Lib.hid r2
              have BB2 := Lib.hid ((r2.bytes (o := 0) (m := ln) (by omega)).congr (G := actF x.b ln) fun i _ => by rw [Nat.zero_add])
              clear r2 l2 BY
              go_wp2_with fail
              refine (write_any x.at_ (W1.heap.size + 1) 0 ln ln (actF x.b ln) W2 w.heap.size { M0 with vl := v' } S HK2.out.o.d HK2.out.o.le NS.out.2.2 BB2.out).mono ?_
              rintro e W3 ⟨rfl, LF⟩
              have z2 : W3.cell? ⟨wr.heap.size, 1, none⟩ = some (.int .i64 x.at_) := by
                obtain ⟨e1, e2, e3, e4⟩ := HK2.out.o.d.apartR X2.out (by decide) (by decide) (by decide)
                exact cell_of_row W3 _ 1 _ _ _ ((LF.turns.block _ (Array.getElem?_eq_some_iff.1 X2.out).1 e1 e2 e3 e4).trans X2.out)
              have RB3 := Lib.hid (RB2.out.left HK2.out.o.d LF)
              obtain ⟨v2, pd⟩ := HK2.out.left LF
              have PD2 := Lib.hid pd
              have cv := conv_any ln (((RB3.out.bytes (o := 0) (m := ln) (by omega)).congr (G := actF x.b ln) fun i _ => by rw [Nat.zero_add]))
              clear pd LF z1
              have a0 := box0 PD2.out.b
              have a1 := box1 PD2.out.b
              have a2 := box2 PD2.out.b
              have a3 := box3 PD2.out.b
              have a4 := box4 PD2.out.b
              have a5 := box5 PD2.out.b
              have RF := Lib.hid (refPut_any x.at_ ln (actF x.b ln) W3 S R PD2.out.r (by omega) NS.out.2.2)
              unfold RCells at RF
              go_wp2_with fail
              refine RF.out.mono ?_
              rintro e W4 ⟨R', rfl, rd, l3⟩
              unfold RCells
              clear RF a0 a1 a2 a3 a4 a5 z2 cv
              have PD3 := Lib.hid (PD2.out.below l3)
              obtain ⟨S2, hS2⟩ : ∃ S2, S2 = putS S x.at_ ln (actF x.b ln) := ⟨_, rfl⟩
              obtain ⟨er, her⟩ : ∃ er, er = putI S x.at_ ln (actF x.b ln) := ⟨_, rfl⟩
              have DE2 := Lib.hid (show didS S x = putS S x.at_ ln (actF x.b ln) by rw [DE.out, NS.out.2.1, HLN.out])
              have PJ := Lib.hid (PD2.out.join l3 rd ((HK1.out.i.did x) |> fun q => by rw [DE2.out] at q; exact q))
              rw [← hS2] at PJ PD3 ⊢
              rw [← her]
              have NT := Lib.hid (show S2.N = N ∧ S2.size = size by rw [hS2, ← DE2.out, didS_N, didS_size]; exact ⟨NS.out.1, NS.out.2.1⟩)
              have NXT := Lib.hid (show runS (newS N size) X (k + 1) = S2 by rw [NX.out, DE2.out, hS2])
              have a0 := box0 PD3.out.b
              have a1 := box1 PD3.out.b
              have a2 := box2 PD3.out.b
              have a3 := box3 PD3.out.b
              have a4 := box4 PD3.out.b
              have a5 := box5 PD3.out.b
              have b0 := boxf PD3.out.b 0
              have b1 := boxf PD3.out.b 1
              have b2 := boxf PD3.out.b 2
              have b3 := boxf PD3.out.b 3
              have b4 := boxf PD3.out.b 4
              have b5 := boxf PD3.out.b 5
              have lb : br < W4.heap.size := (Array.getElem?_eq_some_iff.1 PD3.out.b).1
              clear rd l3 hS2 her
              go_upto_region 16 with (fail)
              have HT := Lib.hid (PJ.out.below ((Below.refl _ _).alloc (Nat.le_refl _) (.cells #[.int .i64 ((S2).N : Int), .int .i64 ((S2).size : Int), .slice (some ⟨R'.g, 0, none⟩) (S2).N R'.c, .slice R'.A (S2).loose.length R'.d, .int .i64 ((S2).armed : Int), .bool (S2).down] 32)))
              unfold six at HT
              generalize ((((((W4.setCell ⟨br, 0, none⟩ (.int .i64 ((S2).N : Int))).setCell ⟨br, 1, none⟩ (.int .i64 ((S2).size : Int))).setCell ⟨br, 2, none⟩ (.slice (some ⟨R'.g, 0, none⟩) (S2).N R'.c)).setCell ⟨br, 3, none⟩ (.slice R'.A (S2).loose.length R'.d)).setCell ⟨br, 4, none⟩ (.int .i64 ((S2).armed : Int))).setCell ⟨br, 5, none⟩ (.bool (S2).down)).alloc (.cells #[.int .i64 ((S2).N : Int), .int .i64 ((S2).size : Int), .slice (some ⟨R'.g, 0, none⟩) (S2).N R'.c, .slice R'.A (S2).loose.length R'.d, .int .i64 ((S2).armed : Int), .bool (S2).down] 32) = WT at HT ⊢
              clear a0 a1 a2 a3 a4 a5 b0 b1 b2 b3 b4 b5 lb PJ PD3 PD2 RB3 RB2 BB2
              have qe : (er != er) = false := by simp
              go_upto_region 35 with (fail)
              have e5 := box5 HT.out.b
              have e3 := box3 HT.out.b
              have SE := Lib.hid (show Calls Try.prog 10 #[.pointer (some ⟨M0.p, 0, none⟩)] WT.drew fun e w' => e = .returned (.int .i64 (N : Int)) ∧ WT.drew = w' by have q := sectors_any WT.drew w.heap.size { M0 with vl := v2 } S2 HT.out.drew.o.d; rw [NT.out.1] at q; exact q)
              have SZ := Lib.hid (show Calls Try.prog 11 #[.pointer (some ⟨M0.p, 0, none⟩)] WT.drew fun e w' => e = .returned (.int .i64 (size : Int)) ∧ WT.drew = w' by have q := size_any WT.drew w.heap.size { M0 with vl := v2 } S2 HT.out.drew.o.d; rw [NT.out.2] at q; exact q)
              go_wp2
              go_region_held_law (fun W => W.cell? ⟨br, 5, none⟩ = some (.bool S2.down) ∧ W.cell? ⟨br, 3, none⟩ = some (.slice R'.A S2.loose.length R'.d))
                (first | exact ⟨e5, e3⟩ | go_keep)
                (first
                  | (go_at_call 24; refine (down_any _ w.heap.size { M0 with vl := v2 } S2 HT.out.drew.o.d).mono ?_; rintro e W9 ⟨rfl, rfl⟩)
                  | (go_at_call 25; refine (loose_any _ w.heap.size { M0 with vl := v2 } S2 HT.out.drew.o.d).mono ?_; rintro e W9 ⟨rfl, rfl⟩)
                  | (go_at_call 10; refine SE.out.mono ?_; rintro e W9 ⟨rfl, rfl⟩)
                  | (go_at_call 11; refine SZ.out.mono ?_; rintro e W9 ⟨rfl, rfl⟩))
              have HTD := Lib.hid HT.out.drew
              clear e5 e3
              go_wp2
              go_roundw
              case rel => exact ⟨k + 1, by omega, by go_num, v2, R', by rw [NXT.out]; exact HTD.out⟩
              case measure => simp [intOf]; omega
    · obtain rfl : k = n := by omega
      obtain ⟨S, hS0⟩ : ∃ S, S = runS (newS N size) X k := ⟨_, rfl⟩
      have NS := Lib.hid (show S.N = N ∧ S.size = size from by
        rw [hS0]
        have q := runS_N (newS N size) X k
        exact ⟨q.1, q.2.1⟩)
      rw [← hS0] at HK
      clear hS0 hk hlt
      go_wp2_with fail
      refine (crash_five w.heap.size { M0 with vl := v' } S wr HK.out.o.d HK.out.o.le).mono ?_
      rintro e W2 ⟨rfl, LF⟩
      obtain ⟨v2, pd⟩ := HK.out.left LF
      have PD2 := Lib.hid pd
      have PA := Lib.hid (pd.below ((Below.refl _ _).alloc (Nat.le_refl _) (.cells #[.int .i64 1, .int .i64 1, .int .i64 1, .int .i64 1, .int .i64 1] 3)))
      clear pd LF
      have a0 := box0 PD2.out.b
      have a1 := box1 PD2.out.b
      have a2 := box2 PD2.out.b
      have a3 := box3 PD2.out.b
      have a4 := box4 PD2.out.b
      have a5 := box5 PD2.out.b
      have RF := Lib.hid (refCrash_any (some ⟨W2.heap.size, 0, none⟩) 5 5 (fun _ => 1) _ S R PA.out.r (five_ints W2))
      unfold RCells at RF
      go_wp2_with fail
      refine RF.out.mono ?_
      rintro e W3 ⟨R', rfl, rd, l3⟩
      unfold RCells
      clear RF a0 a1 a2 a3 a4 a5
      have PD3 := Lib.hid (PA.out.below l3)
      obtain ⟨S2, hS2⟩ : ∃ S2, S2 = crashS S (fun _ => 1) 5 := ⟨_, rfl⟩
      have PJ := Lib.hid (PA.out.join l3 rd (HK.out.i.crash _ _))
      rw [← hS2] at PJ PD3 ⊢
      have NT := Lib.hid (show S2.N = N ∧ S2.size = size ∧ S2.down = false by rw [hS2]; exact ⟨NS.out.1, NS.out.2, rfl⟩)
      have a0 := box0 PD3.out.b
      have a1 := box1 PD3.out.b
      have a2 := box2 PD3.out.b
      have a3 := box3 PD3.out.b
      have a4 := box4 PD3.out.b
      have a5 := box5 PD3.out.b
      have b0 := boxf PD3.out.b 0
      have b1 := boxf PD3.out.b 1
      have b2 := boxf PD3.out.b 2
      have b3 := boxf PD3.out.b 3
      have b4 := boxf PD3.out.b 4
      have b5 := boxf PD3.out.b 5
      clear rd l3 hS2
      go_upto_region 39 with (fail)
      have HT := Lib.hid PJ.out
      unfold six at HT
      generalize (((((W3.setCell ⟨br, 0, none⟩ (.int .i64 ((S2).N : Int))).setCell ⟨br, 1, none⟩ (.int .i64 ((S2).size : Int))).setCell ⟨br, 2, none⟩ (.slice (some ⟨R'.g, 0, none⟩) (S2).N R'.c)).setCell ⟨br, 3, none⟩ (.slice R'.A (S2).loose.length R'.d)).setCell ⟨br, 4, none⟩ (.int .i64 ((S2).armed : Int))).setCell ⟨br, 5, none⟩ (.bool (S2).down) = WT at HT ⊢
      clear a0 a1 a2 a3 a4 a5 b0 b1 b2 b3 b4 b5 PJ PD3 PD2 PA HK
      go_wp2
      go_loopw [22] (fun i wq => ∃ p : Nat, p ≤ N ∧ i = .int .i64 p ∧ Below WT.heap.size WT wq) (fun i _ => N - (intOf i).toNat)
      case atStart => exact ⟨0, by omega, rfl, Below.refl _ _⟩
      case round =>
        obtain ⟨p, hp, rfl, hl⟩ := hrel
        have HL := Lib.hid hl
        clear hl
        have HP := Lib.hid (HT.out.below HL.out)
        by_cases hlt3 : p < N
        · have er : reachI S2 p = 0 := by unfold reachI; rw [if_neg (by rw [NT.out.2.2]; simp), if_neg (by rw [NT.out.1]; omega)]
          have RD1 := Lib.hid (read_any p wr w.heap.size { M0 with vl := v2 } S2 HP.out.o.d)
          unfold ReadPost at RD1
          rw [er] at RD1
          have ER := Lib.hid er
          clear er
          go_wp2_with fail
          refine RD1.out.mono ?_
          rintro e W4 ⟨A3, d3, rfl, b3, l3⟩
          have HP4 := Lib.hid (HP.out.below l3)
          have L4 := Lib.hid (HL.out.trans (l3.mono HL.out.size))
          have B3 := Lib.hid b3
          clear b3 l3 RD1
          have a0 := box0 HP4.out.b
          have a1 := box1 HP4.out.b
          have a2 := box2 HP4.out.b
          have a3 := box3 HP4.out.b
          have a4 := box4 HP4.out.b
          have a5 := box5 HP4.out.b
          have RR := Lib.hid (refRead_any p W4 S2 R' HP4.out.r HP4.out.i)
          unfold RCells RRead at RR
          rw [ER.out] at RR
          go_wp2_with fail
          refine RR.out.mono ?_
          rintro e W5 ⟨rfl, l5⟩
          have L5 := Lib.hid (L4.out.trans (l5.mono L4.out.size))
          have cv1 := conv_any d3 (B3.out.below l5 (Nat.le_refl _))
          obtain ⟨nn, hnn⟩ : ∃ nn, nn = readN S2 p := ⟨_, rfl⟩
          obtain ⟨st, hst⟩ : ∃ st, st = strF (S2.now (Int.toNat p)) nn := ⟨_, rfl⟩
          rw [← hnn, ← hst] at cv1
          rw [← hnn, ← hst]
          have q2 : (!(st.toList == st.toList)) = false := by simp
          clear a0 a1 a2 a3 a4 a5 RR l5 B3 hnn hst
          go_wp2
          go_roundw
          case rel => exact ⟨p + 1, by omega, by go_num, L5.out⟩
          case measure => simp [intOf]; omega
        · obtain rfl : p = N := by omega
          go_wp2_with fail
          refine (awake_any wr).mono ?_
          rintro e W6 ⟨rfl, l6⟩
          have LL := Lib.hid (HP.out.o.b.trans (l6.mono HP.out.o.le))
          clear l6
          go_wp2
          go_ret
          exact ⟨rfl, LL.out⟩
end Go.Proofs.Ytpajedofffnhdaa
