/- the reader: posting. -/
import Derived.Test.YthpfaaindkkpcaaBAbove
import Derived.Deep.Cut
namespace Go.Proofs.Ythpfaaindkkpcaa
open Go.RowKit Go.Maps
set_option linter.unusedVariables false
set_option linter.unusedSimpArgs false

/-- Places read behind one, and what is left. -/
def plsL (len : Int) : Nat → Int → List Nat → Option (List Int × List Nat)
  | 0, _, xs => some ([], xs)
  | k + 1, before, xs => match abL before (len - 1) xs with
    | none => none
    | some (p, r) => (plsL len k p r).map fun q => (p :: q.1, q.2)
/-- A posting read behind a row's, and what is left. -/
def postL (row : Int) (xs : List Nat) : Option ((Int × Int × List Int) × List Nat) :=
  match abL row 9007199254740992 xs with
  | none => none
  | some (a, r1) => match abL 0 1048576 r1 with
    | none => none
    | some (l, r2) => match abL 0 l r2 with
      | none => none
      | some (n, r3) => if n ≤ r3.length then (plsL l n.toNat (-1) r3).map fun q => ((a, l, q.1), q.2) else none
theorem intInfo8 : (Try.prog.info? 3).map (fun i => (i.zero, i.size, i.bytes)) = some (some (.int .i64 0), 1, 8) := by kernel_rfl
/-- Where the reading of the places stands. -/
structure PSt (w wr : World) (Bx P g n : Nat) (a l : Int) (F : Nat → Int) (ys : List Nat) : Prop where
  rd : Rd wr Bx ys
  pb : PB wr P a l (.slice (some ⟨g, 0, none⟩) n n)
  res : PB wr w.heap.size 0 0 (.slice none 0 0)
  row : wr.rowIs g 3 n (fun i => .int .i64 (F i))
  lp : w.heap.size < P
  lg : P < g
  lb : Bx < w.heap.size
  kp : Kp Bx w wr
theorem PSt.next {w wr W : World} {Bx P g n : Nat} {a l : Int} {F : Nat → Int} {ys zs : List Nat} (h : PSt w wr Bx P g n a l F ys) (hr : Rd W Bx zs) (hk : Kp Bx wr W) : PSt w W Bx P g n a l F zs :=
  ⟨hr, h.pb.keep hk (by have := h.lp; have := h.lb; omega), h.res.keep hk h.lb, h.row.of_block (hk.2 g (by have := h.lp; have := h.lb; have := h.lg; omega) h.row.lt), h.lp, h.lg, h.lb, h.kp.trans hk⟩
theorem PSt.put {w wr : World} {Bx P g n : Nat} {a l : Int} {F : Nat → Int} {ys : List Nat} (h : PSt w wr Bx P g n a l F ys) (k : Nat) (z : Int) : PSt w (wr.setCell ⟨g, k, none⟩ (.int .i64 z)) Bx P g n a l (fun j => if j = k then z else F j) ys := by
  have h1 := h.lp
  have h2 := h.lg
  have h3 := h.lb
  have hb : Below g wr (wr.setCell ⟨g, k, none⟩ (.int .i64 z)) := (Below.refl _ _).setCell (p := ⟨g, k, none⟩) (Nat.le_refl _) _
  refine ⟨h.rd.other (hb.mono (by omega)), (hb.block P h2).trans h.pb, (hb.block w.heap.size (by omega)).trans h.res, ?_, h1, h2, h3, ?_⟩
  · exact (h.row.set k (.int .i64 z)).congr fun i hi => by split <;> rfl
  · exact ⟨h.kp.1.trans (hb.mono (by omega)), fun q q1 q2 => (hb.block q (by omega)).trans (h.kp.2 q q1 q2)⟩
theorem PSt.drew {w wr : World} {Bx P g n : Nat} {a l : Int} {F : Nat → Int} {ys : List Nat} (h : PSt w wr Bx P g n a l F ys) : PSt w wr.drew Bx P g n a l F ys :=
  h.next (h.rd.keep (Below.refl _ _).drew) (Kp.of (Below.refl _ _).drew h.rd.lt)
/-- Behind the third number, the row made. -/
theorem PSt.start {w w1 w2 w3 : World} {Bx : Nat} {a l : Int} {r3 : List Nat} {n : Nat} (hlb : Bx < w.heap.size)
    (k1 : Kp Bx (w.alloc (.cells #[.int .i64 0, .int .i64 0, .slice none 0 0] 48)) w1)
    (k2 : Kp Bx (w1.alloc (.cells #[.int .i64 a, .int .i64 0, .slice none 0 0] 48)) w2)
    (k3 : Kp Bx (w2.setCell ⟨w1.heap.size, 1, none⟩ (.int .i64 l)) w3) (r : Rd w3 Bx r3) :
    PSt w ((w3.setCell ⟨w1.heap.size, 2, none⟩ (.slice (some ⟨w3.heap.size, 0, none⟩) n n)).alloc (.cells (madeCells #[.int .i64 0] n) 3)) Bx w1.heap.size w3.heap.size n a l (fun _ => 0) r3 := by
  have s1 : w.heap.size + 1 ≤ w1.heap.size := by have := k1.1.size; rwa [World.size_alloc] at this
  have s2 : w1.heap.size + 1 ≤ w2.heap.size := by have := k2.1.size; rwa [World.size_alloc] at this
  have s3 : w2.heap.size ≤ w3.heap.size := by have := k3.1.size; simpa [World.setCell] using this
  have p2 : PB w2 w1.heap.size a 0 (.slice none 0 0) := PB.keep (heap_alloc_new w1 _) k2 (by omega)
  have p3 : PB w3 w1.heap.size a l (.slice none 0 0) := (p2.set1 l).keep k3 (by omega)
  have q1 : PB w1 w.heap.size 0 0 (.slice none 0 0) := PB.keep (heap_alloc_new w _) k1 hlb
  have q2 : PB w2 w.heap.size 0 0 (.slice none 0 0) := PB.keep (w := w1.alloc _) ((Below.heap_alloc _ _ _ (by omega)).trans q1) k2 hlb
  have q3 : PB w3 w.heap.size 0 0 (.slice none 0 0) := PB.keep (w := w2.setCell ⟨w1.heap.size, 1, none⟩ (.int .i64 l)) ((Below.heap_setCell _ _ _ _ (by show w.heap.size ≠ w1.heap.size; omega)).trans q2) k3 hlb
  have es : (w3.setCell ⟨w1.heap.size, 2, none⟩ (.slice (some ⟨w3.heap.size, 0, none⟩) n n)).heap.size = w3.heap.size := by simp [World.setCell]
  have hb1 : Below w1.heap.size w3 (w3.setCell ⟨w1.heap.size, 2, none⟩ (.slice (some ⟨w3.heap.size, 0, none⟩) n n)) := (Below.refl w1.heap.size w3).setCell (p := ⟨w1.heap.size, 2, none⟩) (Nat.le_refl _) _
  have hb : Below w1.heap.size w3 ((w3.setCell ⟨w1.heap.size, 2, none⟩ (.slice (some ⟨w3.heap.size, 0, none⟩) n n)).alloc (.cells (madeCells #[.int .i64 0] n) 3)) := hb1.alloc (by omega) _
  have p4 : PB (w3.setCell ⟨w1.heap.size, 2, none⟩ (.slice (some ⟨w3.heap.size, 0, none⟩) n n)) w1.heap.size a l (.slice (some ⟨w3.heap.size, 0, none⟩) n n) := p3.set2 _
  have p5 := World.rowIs_made (w3.setCell ⟨w1.heap.size, 2, none⟩ (.slice (some ⟨w3.heap.size, 0, none⟩) n n)) (.int .i64 0) n 3
  rw [es] at p5
  refine ⟨r.other (hb.mono (by omega)), (Below.heap_alloc _ _ _ (by omega)).trans p4, (hb.block _ (by omega)).trans q3, ?_, by omega, by omega, hlb, ?_⟩
  · exact p5
  · have e1 : Below w.heap.size w (w.alloc (.cells #[.int .i64 0, .int .i64 0, .slice none 0 0] 48)) := (Below.refl _ _).alloc (Nat.le_refl _) _
    have e2 : Below w1.heap.size w1 (w1.alloc (.cells #[.int .i64 a, .int .i64 0, .slice none 0 0] 48)) := (Below.refl _ _).alloc (Nat.le_refl _) _
    have e3 : Below w1.heap.size w2 (w2.setCell ⟨w1.heap.size, 1, none⟩ (.int .i64 l)) := (Below.refl _ _).setCell (p := ⟨w1.heap.size, 1, none⟩) (Nat.le_refl _) _
    refine ⟨(((((e1.mono (by omega)).trans k1.1).trans (e2.mono (by omega))).trans k2.1).trans ((e3.mono (by omega)).trans k3.1)).trans (hb.mono (by omega)), fun g g1 g2 => ?_⟩
    rw [hb.block g (by omega), k3.2 g g1 (by simp [World.setCell]; omega), e3.block g (by omega), k2.2 g g1 (by rw [World.size_alloc]; omega), e2.block g (by omega), k1.2 g g1 (by rw [World.size_alloc]; omega), e1.block g (by omega)]
theorem PSt.congr {w wr : World} {Bx P g n : Nat} {a l : Int} {F G : Nat → Int} {ys : List Nat} (h : PSt w wr Bx P g n a l F ys) (e : ∀ i, i < n → F i = G i) : PSt w wr Bx P g n a l G ys :=
  ⟨h.rd, h.pb, h.res, h.row.congr fun i hi => by rw [e i hi], h.lp, h.lg, h.lb, h.kp⟩
theorem getD_snoc (ps : List Int) (p : Int) (i : Nat) : (ps ++ [p]).getD i 0 = if i = ps.length then p else ps.getD i 0 := by
  simp only [List.getD_eq_getElem?_getD, List.getElem?_append]
  by_cases h : i < ps.length
  · rw [if_pos h, if_neg (by omega)]
  · rw [if_neg h]
    by_cases h2 : i = ps.length
    · subst h2; simp
    · rw [if_neg h2, List.getElem?_eq_none (by simp; omega), List.getElem?_eq_none (by omega)]
theorem PB.set0 {w : World} {P : Nat} {a b : Int} {v : Value} (h : PB w P a b v) (a' : Int) : PB (w.setCell ⟨P, 0, none⟩ (.int .i64 a')) P a' b v := by
  have h' : w.heap[P]? = _ := h
  show (w.setCell ⟨P, 0, none⟩ (.int .i64 a')).heap[P]? = _
  simp [World.setCell, Array.getElem?_modify, h']
/-- How the reading of a posting ends. -/
def PostEnd (row : Int) (xs : List Nat) (Bx : Nat) (w : World) (e : Ending) (w' : World) : Prop :=
  (∃ a l ps r g, postL row xs = some ((a, l, ps), r) ∧ e = .returned (.agg #[.int .i64 a, .int .i64 l, .slice (some ⟨g, 0, none⟩) ps.length ps.length]) ∧ w.heap.size ≤ g ∧ w'.rowIs g 3 ps.length (fun i => .int .i64 (ps.getD i 0)) ∧ Rd w' Bx r ∧ Kp Bx w w') ∨
  (postL row xs = none ∧ e = .panicked [faultP] ∧ Kp Bx w w')
theorem quad_drew {W : World} {a b c : Addr} {x y : Value} {f : Bool} (h : W.cell? a = some x ∧ W.cell? b = some y ∧ W.frozen? c = f) : W.drew.cell? a = some x ∧ W.drew.cell? b = some y ∧ W.drew.frozen? c = f := h
theorem quad_set {W : World} {P g k i j : Nat} {x y : Value} {f : Bool} (u : Value) (hne : P ≠ g) (h : W.cell? ⟨P, i, none⟩ = some x ∧ W.cell? ⟨P, j, none⟩ = some y ∧ W.frozen? ⟨g, k, none⟩ = f) : (W.setCell ⟨g, k, none⟩ u).cell? ⟨P, i, none⟩ = some x ∧ (W.setCell ⟨g, k, none⟩ u).cell? ⟨P, j, none⟩ = some y ∧ (W.setCell ⟨g, k, none⟩ u).frozen? ⟨g, k, none⟩ = f :=
  ⟨(World.cell?_of_block (w := W) (a := ⟨P, i, none⟩) (Below.heap_setCell _ _ _ _ hne)).trans h.1, (World.cell?_of_block (w := W) (a := ⟨P, j, none⟩) (Below.heap_setCell _ _ _ _ hne)).trans h.2.1, (World.frozen?_setCell _ _ _ _).trans h.2.2⟩
theorem PSt.quad {w W : World} {Bx P g n : Nat} {a l : Int} {F : Nat → Int} {ys : List Nat} (h : PSt w W Bx P g n a l F ys) (k : Nat) : W.cell? ⟨P, 1, none⟩ = some (.int .i64 l) ∧ W.cell? ⟨P, 2, none⟩ = some (.slice (some ⟨g, 0, none⟩) n n) ∧ W.frozen? ⟨g, k, none⟩ = false :=
  ⟨h.pb.c 1, h.pb.c 2, h.row.frozen k⟩
set_option maxRecDepth 100000 in
set_option maxHeartbeats 8000000 in
theorem posting_yes (Bx : Nat) (row : Int) (h1 : -1 ≤ row) (h2 : row ≤ 9007199254740992) (xs : List Nat) (w : World) (h : Rd w Bx xs) (a l : Int) (n : Nat) (r1 r2 r3 : List Nat)
    (ha : abL row 9007199254740992 xs = some (a, r1)) (hl : abL 0 1048576 r1 = some (l, r2)) (hn : abL 0 l r2 = some ((n : Int), r3)) (hle : n ≤ r3.length) :
    Calls Try.prog 23 #[.pointer (some ⟨Bx, 0, none⟩), .int .i64 row] w (PostEnd row xs Bx w) := by
  have HPost : Hid (postL row xs = (plsL l n (-1) r3).map fun q => ((a, l, q.1), q.2)) := Lib.hid (by
    unfold postL; rw [ha]; dsimp only; rw [hl]; dsimp only; rw [hn]; dsimp only; rw [if_pos (by omega), Int.toNat_natCast])
  have HA := Lib.hid (above_yes ha h1 h2 (by omega) (by omega) (w.alloc (.cells #[.int .i64 0, .int .i64 0, .slice none 0 0] 48)) (h.keep ((Below.refl _ _).alloc (Nat.le_refl _) _)))
  have HLb := Lib.hid h.lt
  have hlb := ab_le hl
  have HL : Hid (∀ w, Rd w Bx r1 → _) := Lib.hid (fun w hw => above_yes (Bx := Bx) hl (by omega) (by omega) (by omega) (by omega) w hw)
  have hnb := ab_le hn
  have HN : Hid (∀ w, Rd w Bx r2 → _) := Lib.hid (fun w hw => above_yes (Bx := Bx) hn (by omega) (by omega) (by omega) (by omega) w hw)
  have hmk := run_make_row' (P := Try.prog) 42 3 (.int .i64 0) 8 Try.underlying42 intInfo8 rfl .i64 .i64 n (by omega) (by omega)
  have HNb := Lib.hid hnb
  clear ha hl hn h h1 h2
  go_enter Try.func23, Try.ntmps23
  go_upto_region 7 with (first
    | (go_at_call 30; (with_reducible refine HA.out.mono ?_); rintro e w1 ⟨rfl, hr, hk⟩; have K1 := Lib.hid hk; have R1 := Lib.hid hr; clear hr hk)
    | (go_at_call 30; (with_reducible refine (HL.out _ (R1.out.keep ((Below.refl _ _).alloc (Nat.le_refl _) _))).mono ?_); rintro e w2 ⟨rfl, hr, hk⟩; have K2 := Lib.hid hk; have R2 := Lib.hid hr; have hpb := PB.keep (heap_alloc_new w1 _) hk (R1.out.lt); have hc1 := hpb.c 1; have hz1 := hpb.z 1; have PB2 := Lib.hid hpb; clear hr hk hpb)
    | (go_at_call 30; (with_reducible refine (HN.out _ (R2.out.other ((Below.refl _ _).setCell (p := ⟨w1.heap.size, 1, none⟩) (Nat.succ_le_of_lt R1.out.lt) _))).mono ?_); rintro e w3 ⟨rfl, hr, hk⟩; have K3 := Lib.hid hk; have R3 := Lib.hid hr; obtain ⟨A, c, hcx, _, _⟩ := hr.c; have hpb := (PB2.out.set1 l).keep hk (R1.out.lt); have hc2 := hpb.c 2; have hz2 := hpb.z 2; have hP3 := hpb.lt; clear hr hk hpb hc1 hz1)
    | (go_at_call 24; (with_reducible refine (need_true _).mono ?_); rintro e w4 ⟨rfl, rfl⟩))
  have hS := PSt.start (n := n) HLb.out K1.out K2.out K3.out R3.out
  obtain ⟨P, hP⟩ : ∃ P, P = w1.heap.size := ⟨_, rfl⟩
  obtain ⟨g, hg⟩ : ∃ g, g = w4.heap.size := ⟨_, rfl⟩
  rw [← hP, ← hg] at hS ⊢
  generalize (w4.setCell ⟨P, 2, none⟩ (.slice (some ⟨g, 0, none⟩) n n)).alloc (.cells (madeCells #[.int .i64 0] n) 3) = W5 at hS ⊢
  have hd2 := hS.pb.c 2
  have HS := Lib.hid hS
  clear hS hP hg hc2 hz2 hP3 hcx hmk K1 K2 K3 R1 R2 R3 PB2 HA HL HN hle
  go_wp2_with fail
  clear hd2
  go_loopw [7, 8, 34] (fun b _ i wr => ∃ (k : Nat) (ps : List Int) (bf : Int) (ys : List Nat), k ≤ n ∧ ps.length = k ∧ i = .int .i64 k ∧ b = .int .i64 bf ∧ -1 ≤ bf ∧ bf < l ∧ plsL l n (-1) r3 = (plsL l (n - k) bf ys).map (fun q => (ps ++ q.1, q.2)) ∧ PSt w wr Bx P g n a l (fun i => ps.getD i 0) ys) (fun _ _ i _ => n - (intOf i).toNat)
  case atStart => exact ⟨0, [], -1, r3, by omega, rfl, rfl, rfl, by omega, by omega, by simp, HS.out⟩
  case round =>
    obtain ⟨k, ps, bf, ys, hk, hps, rfl, rfl, hb1, hb2, heq, hst⟩ := hrel
    have HE := Lib.hid heq
    have HT := Lib.hid hst
    have HPs := Lib.hid hps
    clear heq hst hps
    by_cases hlt : k < n
    · obtain ⟨m, hm⟩ : ∃ m, n - k = m + 1 := ⟨n - k - 1, by omega⟩
      have HM := Lib.hid hm
      cases hab : abL bf (l - 1) ys with
      | none =>
        have HAb : Hid (∀ W, Rd W Bx ys → _) := Lib.hid (fun W hW => above_no (Bx := Bx) hab (by omega) (by omega) (by omega) (by omega) W hW)
        have HZ : Hid (postL row xs = none) := Lib.hid (by rw [HPost.out, HE.out, hm, plsL, hab]; rfl)
        clear hab hm
        have HTd := Lib.hid HT.out.drew
        have SC := Lib.hid (HT.out.quad k)
        have hwr : IntKind.i64.wrap (l - 1) = l - 1 := IntWalk.i64_in _ (by omega)
        go_wp2_with fail
        refine wp_region_held_drew (S := fun W => W.cell? ⟨P, 1, none⟩ = some (.int .i64 l) ∧ W.cell? ⟨P, 2, none⟩ = some (.slice (some ⟨g, 0, none⟩) n n)) (by kernel_rfl) (⟨SC.out.1, SC.out.2.1⟩) (fun hHeld => ?_)
        simp only [List.append, List.size_toArray, List.length_cons, List.length_nil, Nat.reduceAdd, Array.replicate_succ, Array.replicate_zero]
        refine wpAnyH_take (i := 0) (oi := { dst := some 37, op := Op.fieldAddr 48 (Operand.tmp 5) 2, type := 0, pos := "bytes.go:84", after := #[], guard := none }) (v := ?_) rfl (by kernel_rfl) (by kernel_rfl) (by kernel_rfl) (fun _ _ _ h => h) (Or.inl ⟨by kernel_rfl, ?_⟩) hHeld ?_
        rotate_left 1
        · (intro w0 hSw; obtain ⟨y1, y2⟩ := hSw; go_simp; (try with_reducible rfl))
        simp only [Act.put, List.setIfInBounds_toArray, List.set_cons_zero, List.set_cons_succ]
        refine wpAnyH_take (i := 2) (oi := { dst := some 39, op := Op.move (Operand.tmp 8), type := 3, pos := "bytes.go:84", after := #[], guard := none }) (v := ?_) rfl (by kernel_rfl) (by kernel_rfl) (by kernel_rfl) (fun _ _ _ h => h) (Or.inl ⟨by kernel_rfl, ?_⟩) hHeld ?_
        rotate_left 1
        · (intro w0 hSw; obtain ⟨y1, y2⟩ := hSw; go_simp; (try with_reducible rfl))
        simp only [Act.put, List.setIfInBounds_toArray, List.set_cons_zero, List.set_cons_succ]
        refine wpAnyH_take (i := 3) (oi := { dst := some 40, op := Op.move (Operand.tmp 0), type := 55, pos := "bytes.go:84", after := #[], guard := none }) (v := ?_) rfl (by kernel_rfl) (by kernel_rfl) (by kernel_rfl) (fun _ _ _ h => h) (Or.inl ⟨by kernel_rfl, ?_⟩) hHeld ?_
        rotate_left 1
        · (intro w0 hSw; obtain ⟨y1, y2⟩ := hSw; go_simp; (try with_reducible rfl))
        simp only [Act.put, List.setIfInBounds_toArray, List.set_cons_zero, List.set_cons_succ]
        refine wpAnyH_take (i := 4) (oi := { dst := some 41, op := Op.move (Operand.tmp 7), type := 3, pos := "bytes.go:84", after := #[], guard := none }) (v := ?_) rfl (by kernel_rfl) (by kernel_rfl) (by kernel_rfl) (fun _ _ _ h => h) (Or.inl ⟨by kernel_rfl, ?_⟩) hHeld ?_
        rotate_left 1
        · (intro w0 hSw; obtain ⟨y1, y2⟩ := hSw; go_simp; (try with_reducible rfl))
        simp only [Act.put, List.setIfInBounds_toArray, List.set_cons_zero, List.set_cons_succ]
        refine wpAnyH_take (i := 5) (oi := { dst := some 42, op := Op.fieldAddr 48 (Operand.tmp 5) 1, type := 0, pos := "bytes.go:84", after := #[], guard := none }) (v := ?_) rfl (by kernel_rfl) (by kernel_rfl) (by kernel_rfl) (fun _ _ _ h => h) (Or.inl ⟨by kernel_rfl, ?_⟩) hHeld ?_
        rotate_left 1
        · (intro w0 hSw; obtain ⟨y1, y2⟩ := hSw; go_simp; (try with_reducible rfl))
        simp only [Act.put, List.setIfInBounds_toArray, List.set_cons_zero, List.set_cons_succ]
        refine wpAnyH_take (i := 1) (oi := { dst := some 38, op := Op.load 42 (Operand.tmp 37), type := 42, pos := "bytes.go:84", after := #[{ on := 0, ground := Ground.data }], guard := none }) (v := ?_) rfl (by kernel_rfl) (by kernel_rfl) (by kernel_rfl) (fun _ _ _ h => h) (Or.inl ⟨by kernel_rfl, ?_⟩) hHeld ?_
        rotate_left 1
        · (intro w0 hSw; obtain ⟨y1, y2⟩ := hSw; go_simp; (try with_reducible rfl))
        simp only [Act.put, List.setIfInBounds_toArray, List.set_cons_zero, List.set_cons_succ]
        refine wpAnyH_take (i := 6) (oi := { dst := some 43, op := Op.load 3 (Operand.tmp 42), type := 3, pos := "bytes.go:84", after := #[{ on := 5, ground := Ground.data }], guard := none }) (v := ?_) rfl (by kernel_rfl) (by kernel_rfl) (by kernel_rfl) (fun _ _ _ h => h) (Or.inl ⟨by kernel_rfl, ?_⟩) hHeld ?_
        rotate_left 1
        · (intro w0 hSw; obtain ⟨y1, y2⟩ := hSw; go_simp; (try with_reducible rfl))
        simp only [Act.put, List.setIfInBounds_toArray, List.set_cons_zero, List.set_cons_succ]
        refine wpAnyH_take (i := 7) (oi := { dst := some 44, op := Op.binOp BinOp.sub 3 (Operand.tmp 43) (Operand.const (Value.int IntKind.i64 1)) 3, type := 3, pos := "bytes.go:84", after := #[{ on := 6, ground := Ground.data }], guard := none }) (v := ?_) rfl (by kernel_rfl) (by kernel_rfl) (by kernel_rfl) (fun _ _ _ h => h) (Or.inl ⟨by kernel_rfl, ?_⟩) hHeld ?_
        rotate_left 1
        · (intro w0 hSw; obtain ⟨y1, y2⟩ := hSw; go_simp; (try with_reducible rfl))
        simp only [Act.put, List.setIfInBounds_toArray, List.set_cons_zero, List.set_cons_succ]
        refine wpAnyH_ready (rs := [8]) (by kernel_rfl) (by simp) ?_
        refine AllReadyH.cons (o := { dst := some 45, op := Op.call { callee := Callee.value (Operand.func 30), args := #[Operand.tmp 40, Operand.tmp 41, Operand.tmp 44], argTypes := #[55, 3, 3] }, type := 3, pos := "bytes.go:84", after := #[{ on := 3, ground := Ground.data }, { on := 4, ground := Ground.data }, { on := 7, ground := Ground.data }], guard := none }) rfl (fun K hK => ?_) AllReadyH.nil
        go_simp
        (go_at_call 30; (with_reducible refine (HAb.out _ HTd.out.rd).mono ?_); rintro e W2 ⟨rfl, hk⟩; exact ⟨rfl, .inr ⟨HZ.out, rfl, HTd.out.kp.trans hk⟩⟩)
      | some p =>
        obtain ⟨p, r⟩ := p
        have HAb : Hid (∀ W, Rd W Bx ys → _) := Lib.hid (fun W hW => above_yes (Bx := Bx) hab (by omega) (by omega) (by omega) (by omega) W hW)
        have hpb := ab_le hab
        have HZ : Hid (plsL l n (-1) r3 = (plsL l (n - (k + 1)) p r).map (fun q => ((ps ++ [p]) ++ q.1, q.2))) := Lib.hid (by
          rw [HE.out, hm, plsL, hab]
          dsimp only
          rw [show n - (k + 1) = m by omega]
          cases plsL l m p r with
          | none => rfl
          | some q => simp)
        clear hab hm
        have HTd := Lib.hid HT.out.drew
        have SC := Lib.hid (HT.out.quad k)
        have hwr : IntKind.i64.wrap (l - 1) = l - 1 := IntWalk.i64_in _ (by omega)
        have HNe := Lib.hid (show P ≠ g by have := HT.out.lg; omega)
        have HFk : Hid (∀ W, Rd W Bx r → Kp Bx wr.drew W → _) := Lib.hid (fun W hr hk => (HTd.out.next hr hk))
        go_wp2_with fail
        go_region_held_law (fun W => W.cell? ⟨P, 1, none⟩ = some (.int .i64 l) ∧ W.cell? ⟨P, 2, none⟩ = some (.slice (some ⟨g, 0, none⟩) n n) ∧ W.frozen? ⟨g, k, none⟩ = false) (repeat (first | with_reducible assumption | with_reducible exact SC.out | with_reducible refine quad_drew ?_ | with_reducible refine quad_set _ HNe.out ?_)) (first
          | (go_at_call 30; (with_reducible refine (HAb.out _ HTd.out.rd).mono ?_); rintro e W2 ⟨rfl, hr, hk⟩; have hT2 := HFk.out _ hr hk; have T2 := Lib.hid hT2; have hS2 := hT2.quad k; have hx2 := hT2.row.cell hlt; clear hr hk hT2))
        have hT3 := (T2.out.put k p)
        generalize W2.setCell ⟨g, k, none⟩ (.int .i64 p) = W3 at hT3 ⊢
        have T3 : Hid (PSt w W3 Bx P g n a l (fun i => (ps ++ [p]).getD i 0) r) := Lib.hid (hT3.congr fun i hi => by rw [getD_snoc, HPs.out])
        have y2 := hT3.pb.c 2
        have y3 := hT3.row.cell hlt
        simp only [if_true] at y3
        clear hT3 hS2 hx2
        go_wp2_with fail
        exact ⟨⟨k + 1, ps ++ [p], p, r, by omega, by simp [HPs.out], by go_num, rfl, by omega, by omega, HZ.out, T3.out⟩, by simp [intOf]; omega⟩
    · obtain rfl : k = n := by omega
      have HZ : Hid (postL row xs = some ((a, l, ps), ys)) := Lib.hid (by rw [HPost.out, HE.out, Nat.sub_self, plsL]; simp)
      have c0 := HT.out.pb.c 0
      have c1 := HT.out.pb.c 1
      have c2 := HT.out.pb.c 2
      have d0 := HT.out.res.c 0
      have d1 := HT.out.res.c 1
      have d2 := HT.out.res.c 2
      have z0 := HT.out.res.z 0
      have z1 := HT.out.res.z 1
      have z2 := HT.out.res.z 2
      go_wp2_with fail
      have hb : Below w.heap.size wr (((wr.setCell ⟨w.heap.size, 0, none⟩ (.int .i64 a)).setCell ⟨w.heap.size, 1, none⟩ (.int .i64 l)).setCell ⟨w.heap.size, 2, none⟩ (.slice (some ⟨g, 0, none⟩) k k)) :=
        (((Below.refl w.heap.size wr).setCell (p := ⟨w.heap.size, 0, none⟩) (Nat.le_refl _) _).setCell (p := ⟨w.heap.size, 1, none⟩) (Nat.le_refl _) _).setCell (p := ⟨w.heap.size, 2, none⟩) (Nat.le_refl _) _
      have hp9 := ((HT.out.res.set0 a).set1 l).set2 (.slice (some ⟨g, 0, none⟩) k k)
      have hr9 : World.rowIs (((wr.setCell ⟨w.heap.size, 0, none⟩ (.int .i64 a)).setCell ⟨w.heap.size, 1, none⟩ (.int .i64 l)).setCell ⟨w.heap.size, 2, none⟩ (.slice (some ⟨g, 0, none⟩) k k)) g 3 k (fun i => .int .i64 (ps.getD i 0)) := by
        have u1 := HT.out.lp
        have u2 := HT.out.lg
        exact ((HT.out.row.setOther (show g ≠ w.heap.size by omega) _).setOther (show g ≠ w.heap.size by omega) _).setOther (show g ≠ w.heap.size by omega) _
      generalize ((wr.setCell ⟨w.heap.size, 0, none⟩ (.int .i64 a)).setCell ⟨w.heap.size, 1, none⟩ (.int .i64 l)).setCell ⟨w.heap.size, 2, none⟩ (.slice (some ⟨g, 0, none⟩) k k) = W9 at hb hp9 hr9 ⊢
      have c0 := hp9.c 0
      have c1 := hp9.c 1
      have c2 := hp9.c 2
      have HB := Lib.hid hb
      have HR9 := Lib.hid hr9
      have e1 : w.heap.size ≤ g := by have u1 := HT.out.lp; have u2 := HT.out.lg; omega
      have E1 := Lib.hid e1
      have hkp : Kp Bx w W9 := ⟨HT.out.kp.1.trans (hb.mono (by have := HT.out.lb; omega)), fun q q1 q2 => (hb.block q q2).trans (HT.out.kp.2 q q1 q2)⟩
      have HKp := Lib.hid hkp
      have HRd := Lib.hid (HT.out.rd.other (hb.mono (by have := HT.out.lb; omega)))
      clear hb hp9 hr9 hkp d0 d1 d2 z0 z1 z2 e1
      (try simp only [Exit.inBlock, Exit.then])
      refine bodyPost_ret (v := .agg #[.int .i64 a, .int .i64 l, .slice (some ⟨g, 0, none⟩) k k]) ?_ rfl ?_
      · simp [results, Try.results23, go_sem, c0, c1, c2]
      · refine .inl ⟨a, l, ps, ys, g, HZ.out, by rw [HPs.out], E1.out, by rw [HPs.out]; exact HR9.out, HRd.out, HKp.out⟩
end Go.Proofs.Ythpfaaindkkpcaa
