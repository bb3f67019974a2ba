/- unpacked: every row of bytes. -/
import Derived.Test.YthpfaaindkkpcaaBUnpack2
namespace Go.Proofs.Ythpfaaindkkpcaa
open Go.RowKit Go.Maps
set_option linter.unusedVariables false
set_option linter.unusedSimpArgs false

/-- How unpacked ends. -/
def UnpEnd (xs : List Nat) (w : World) (e : Ending) (w' : World) : Prop :=
  (∃ ls v Q, unpL xs = some ls ∧ e = .returned (.tuple #[v, .int .i64 0]) ∧ OwnQ 48 w' (w.heap.size + 3) v ls.length Q ∧ (∀ i, i < ls.length → PsM (w.heap.size + 3) (Q i) (ls.getD i (0, 0, []))) ∧ Below w.heap.size w w') ∨
  (unpL xs = none ∧ e = .returned (.tuple #[.slice none 0 0, .int .i64 5]) ∧ Below w.heap.size w w')
theorem w0_inv {w W : World} {A : Option Addr} {n c : Nat} {r : List Nat} (hk : Kp (w.heap.size + 1 + 1) (W0 w A n c) W) (hr : Rd W (w.heap.size + 1 + 1) r) (Q : Nat → Pst) : UInv w W 0 Q (.slice none 0 0) [] r := by
  have e : ((w.alloc (.cells #[.slice none 0 0] 23)).alloc (.cells #[.int .i64 0] 24)).heap.size = w.heap.size + 1 + 1 := by simp
  have hb : Below w.heap.size w (W0 w A n c) := (((Below.refl _ _).alloc (Nat.le_refl _) _).alloc (by simp) _).alloc (by rw [e]; omega) _
  refine ⟨(w0_le w A n c).keep hk (by omega), hr, ownQ_nil _ _ _ _, fun i hi => absurd hi (by omega), rfl, hb.trans (hk.1.mono (by omega)), ?_⟩
  have := hk.1.size
  simp at this
  omega
theorem psts_inD {l : Int} {ps : List Int} (hb : ∀ p ∈ ps, -1 < p ∧ p < l) (hl : l ≤ 1048576) (i : Nat) (hi : i < ps.length) : -1 < ps.getD i 0 ∧ ps.getD i 0 < 1048576 := by
  have := hb (ps[i]) (List.getElem_mem hi)
  simp only [List.getD_eq_getElem?_getD, List.getElem?_eq_getElem hi, Option.getD_some]
  omega
theorem le_set {w : World} {L : Nat} {v : Value} {e0 : Int} (h : LE w L v e0) (v' : Value) (e' : Int) : LE ((w.setCell ⟨L, 0, none⟩ v').setCell ⟨L + 1, 0, none⟩ (.int .i64 e')) L v' e' := by
  obtain ⟨h1, h2⟩ := h
  constructor
  · rw [Below.heap_setCell _ _ _ _ (by show L ≠ L + 1; omega)]
    simp [World.setCell, Array.getElem?_modify, h1]
  · have e : (w.setCell ⟨L, 0, none⟩ v').heap[L + 1]? = _ := (Below.heap_setCell _ _ _ _ (by show L + 1 ≠ L; omega)).trans h2
    generalize w.setCell ⟨L, 0, none⟩ v' = w2 at e ⊢
    simp [World.setCell, Array.getElem?_modify, e]
theorem UInv.grown_le {w W w' : World} {k : Nat} {Q : Nat → Pst} {v : Value} {ls : List (Int × Int × List Int)} {ys : List Nat} (h : UInv w W k Q v ls ys) (hg : W.grownBy w' v.ownBlock) : LE w' w.heap.size v 0 := by
  have hs := h.sz
  exact ⟨(hg.block _ (by omega) (fun e => by have := (h.own.1.lt _ e.symm).1; omega)).trans h.le.1, (hg.block _ (by omega) (fun e => by have := (h.own.1.lt _ e.symm).1; omega)).trans h.le.2⟩
theorem PB.grown {W w' : World} {P : Nat} {a b : Int} {u v : Value} (h : PB W P a b u) (hg : W.grownBy w' v.ownBlock) (hne : some P ≠ v.ownBlock) : PB w' P a b u := (hg.block P h.lt hne).trans h
theorem ints_row {w : World} {g : Nat} {ps : List Int} {l : Int} (h : w.rowIs g 3 ps.length (fun i => .int .i64 (ps.getD i 0))) (hb : ∀ p ∈ ps, -1 < p ∧ p < l) (hl : l ≤ 1048576) (hn : ps.length ≤ 1048576) : Ints w (some ⟨g, 0, none⟩) ps.length (fun i => ps.getD i 0) :=
  ⟨by omega, fun i hi => by have := psts_inD hb hl i hi; dsimp only; omega, fun _ => ⟨g, 0, rfl, fun i hi => by rw [Nat.zero_add]; exact h.cell hi⟩⟩
set_option maxRecDepth 100000 in
set_option maxHeartbeats 8000000 in
theorem unpacked_yes (A : Option Addr) (c : Nat) (xs : List Nat) (w : World) (h : RB w w.heap.size A xs) (hl : xs.length ≤ c) (n : Nat) (r : List Nat) (h0 : rdL 64 0 xs = some (n, r)) :
    Calls Try.prog 13 #[.slice A xs.length c] w (UnpEnd xs w) := by
  have hmf := mkFunc
  have hn64 := (rd_le _ _ _ _ _ h0).1
  have HN : Hid (Calls Try.prog 22 #[.pointer (some ⟨w.heap.size + 1 + 1, 0, none⟩), .int .i64 64] (W0 w A xs.length c) fun e w' => e = .returned (.int .i64 (n : Nat)) ∧ Rd w' (w.heap.size + 1 + 1) r ∧ Kp (w.heap.size + 1 + 1) (W0 w A xs.length c) w') :=
    Lib.hid ((number_any2 (w.heap.size + 1 + 1) 64 (by omega) xs _ (w0_rd h hl)).mono fun e w' z => by
      rcases z with ⟨a, r', z1, z2⟩ | ⟨z1, _⟩
      · rw [h0] at z1; injection z1 with z1; injection z1 with z3 z4; subst z3 z4; exact z2
      · rw [h0] at z1; cases z1)
  have HU : Hid (unpL xs = match pstsL n (-1) r with | none => none | some (l, r') => if r' = [] then some l else none) := Lib.hid (by unfold unpL; rw [h0]; rfl)
  clear h hl h0
  generalize xs.length = xn at *
  go_enter_defers Try.func13, Try.ntmps13
  go_wp2_with (first
    | (go_at_call 22; (with_reducible refine HN.out.mono ?_); rintro e w1 ⟨rfl, hr, hk⟩; have HI := Lib.hid (w0_inv hk hr (fun _ => ⟨0, 0, none, 0, 0, fun _ => 0⟩)); clear hk hr))
  clear HN
  go_loopw [5, 6, 13] (fun row _ i wr => ∃ (k : Nat) (Q : Nat → Pst) (v : Value) (ls : List (Int × Int × List Int)) (rw : Int) (ys : List Nat), k ≤ n ∧ i = .int .i64 k ∧ row = .int .i64 rw ∧ -1 ≤ rw ∧ rw ≤ 9007199254740992 ∧ pstsL n (-1) r = (pstsL (n - k) rw ys).map (fun q => (ls ++ q.1, q.2)) ∧ UInv w wr k Q v ls ys) (fun _ _ i _ => n - (intOf i).toNat)
  case atStart => exact ⟨0, _, _, [], -1, r, by omega, rfl, rfl, by omega, by omega, by simp, HI.out⟩
  case round =>
    obtain ⟨k, Q, v, ls, row, ys, hk, rfl, rfl, hr1, hr2, heq, hinv⟩ := hrel
    have HE := Lib.hid heq
    have HV := Lib.hid hinv
    clear heq hinv HI
    by_cases hlt : k < n
    · obtain ⟨m, hm⟩ : ∃ m, n - k = m + 1 := ⟨n - k - 1, by omega⟩
      cases hp : postL row ys with
      | none =>
        have HP := Lib.hid (post_no hp hr1 hr2 wr HV.out.rd)
        have HZ : Hid (unpL xs = none) := Lib.hid (by rw [HU.out, HE.out, hm, pstsL, hp]; rfl)
        clear hp hm
        go_wp2_with (first
          | (go_at_call 23; (with_reducible refine HP.out.mono ?_); rintro e w2 ⟨rfl, hk2⟩; have K2 := Lib.hid hk2; clear hk2))
        have hle := HV.out.le.keep K2.out (by omega)
        have HLe := Lib.hid hle
        have LB := Lib.hid (HV.out.bel.trans (K2.out.1.mono (by omega)))
        clear hle
        refine leaves_cons (f := 21) (args := #[.pointer (some ⟨w.heap.size, 0, none⟩), .pointer (some ⟨w.heap.size + 1, 0, none⟩)]) (by simp) (by simp [go_sem]) ?_
        refine (catch_panicking w.heap.size (w.heap.size + 1) [] w2 _ _ HLe.out.c.1 HLe.out.c.2.1 HLe.out.c.2.2.1 HLe.out.c.2.2.2 (by omega)).mono ?_
        rintro e u' w'' ⟨rfl, rfl, rfl⟩
        have h9 := (le_nil HLe.out).c
        have L2 : Hid (Below w.heap.size w ((World.setCell w2 ⟨w.heap.size, 0, none⟩ (.slice none 0 0)).setCell ⟨w.heap.size + 1, 0, none⟩ (.int .i64 5)).drew) := Lib.hid (((LB.out.setCell (p := ⟨w.heap.size, 0, none⟩) (Nat.le_refl _) _).setCell (p := ⟨w.heap.size + 1, 0, none⟩) (by show w.heap.size ≤ w.heap.size + 1; omega) _).drew)
        generalize ((World.setCell w2 ⟨w.heap.size, 0, none⟩ (.slice none 0 0)).setCell ⟨w.heap.size + 1, 0, none⟩ (.int .i64 5)).drew = W9 at h9 L2 ⊢
        obtain ⟨y1, y2, _, _⟩ := h9
        simp [Leaves, settle, results, Try.results13, go_sem, y1, y2]
        exact .inr ⟨HZ.out, rfl, L2.out⟩
      | some q =>
        obtain ⟨⟨a, l, ps⟩, zs⟩ := q
        have HP := Lib.hid (post_yes hp hr1 hr2 wr HV.out.rd)
        have hb := post_bounds hp
        have HB := Lib.hid hb
        have hb1 : -1 ≤ a := by omega
        have hb2 : a ≤ 9007199254740992 := hb.2.1
        have HZ : Hid (pstsL n (-1) r = (pstsL (n - (k + 1)) a zs).map (fun q => ((ls ++ [(a, l, ps)]) ++ q.1, q.2))) := Lib.hid (by
          rw [HE.out, hm, pstsL, hp]
          dsimp only
          rw [show n - (k + 1) = m by omega]
          cases pstsL m a zs with
          | none => rfl
          | some q => simp)
        clear hp hm hb
        go_upto_region 7 with (first
          | (go_at_call 23; (with_reducible refine HP.out.mono ?_); rintro e w2 ⟨g, rfl, hg1, hg2, hrd2, hk2⟩; have I2 := Lib.hid (HV.out.kp hk2 hrd2); have G2 := Lib.hid hg2; have G1 := Lib.hid (show wr.heap.size ≤ g from hg1); clear hk2 hrd2 hg1 hg2))
        have hal := (Below.refl w2.heap.size w2).alloc (Nat.le_refl _) (.cells #[.int .i64 a, .int .i64 l, .slice (some ⟨g, 0, none⟩) ps.length ps.length] 48)
        have I3 := Lib.hid (I2.out.below hal)
        have hpb : PB (w2.alloc (.cells #[.int .i64 a, .int .i64 l, .slice (some ⟨g, 0, none⟩) ps.length ps.length] 48)) w2.heap.size a l (.slice (some ⟨g, 0, none⟩) ps.length ps.length) := heap_alloc_new w2 _
        have G3 := Lib.hid (World.rowIs.alloc G2.out (.cells #[.int .i64 a, .int .i64 l, .slice (some ⟨g, 0, none⟩) ps.length ps.length] 48))
        have HNe : Hid (some w2.heap.size ≠ v.ownBlock) := Lib.hid fun e => by have := (I2.out.own.1.lt _ e.symm).2; omega
        have hs2 := I2.out.sz
        obtain ⟨P9, hP9⟩ : ∃ P9, P9 = w2.heap.size := ⟨_, rfl⟩
        rw [← hP9] at hpb HNe hs2 ⊢
        generalize w2.alloc (.cells #[.int .i64 a, .int .i64 l, .slice (some ⟨g, 0, none⟩) ps.length ps.length] 48) = W3 at I3 hpb G3 ⊢
        have hc3 := I3.out.le.c.1
        have c0 := hpb.c 0
        have c1 := hpb.c 1
        have c2 := hpb.c 2
        have HPb := Lib.hid hpb
        have hs3 := I3.out.sz
        clear hal hpb hP9 I2 G2
        go_wp2_with (first
          | (at_builtin; refine wpList_pushQ 48 W3 rfl _ _ 23 rfl Try.underlying23 pstInfo (w.heap.size + 3) v k Q rfl I3.out.own ⟨a, l, some ⟨g, 0, none⟩, ps.length, ps.length, fun i => ps.getD i 0⟩ rfl ⟨ints_row G3.out HB.out.2.2.2.2.1 HB.out.2.2.2.1 HB.out.2.2.2.2.2, by have := HB.out; unfold In64; dsimp only; omega, by have := HB.out; unfold In64; dsimp only; omega, (fun e => by cases e), fun hn b o e e2 => by injection e with e; injection e with e3 e4; have h1 := (HV.out.own.1.lt b e2.symm).2; have h2 := G1.out; omega⟩ (by omega) (by omega) ?_; intro v' w5 ho5 hg5; obtain ⟨A5, c5, rfl, _, _⟩ := ownQ_psts ho5; have O5 := Lib.hid ho5; have G5 := Lib.hid hg5; have hl5 := I3.out.grown_le hg5; have hc5 := hl5.c.1; have hz5 := hl5.c.2.2.1; have hp5 := PB.grown HPb.out hg5 HNe.out; have hq5 : ∀ u, (w5.setCell ⟨w.heap.size, 0, none⟩ u).cell? ⟨P9, 0, none⟩ = some (.int .i64 a) := fun u => (World.cell?_of_block (w := w5) (a := ⟨P9, 0, none⟩) (Below.heap_setCell _ _ _ _ (by show P9 ≠ w.heap.size; omega))).trans (hp5.c 0); clear ho5 hg5 hl5 hp5))
        exact ⟨⟨k + 1, _, _, ls ++ [(a, l, ps)], a, zs, by omega, by go_num, rfl, hb1, hb2, HZ.out, I3.out.push O5.out G5.out ⟨rfl, rfl, rfl, rfl, g, rfl, by have h1 := G1.out; have h2 := HV.out.sz; omega⟩⟩, by simp [intOf]; omega⟩
    · obtain rfl : k = n := by omega
      have HS := Lib.hid (show pstsL k (-1) r = some (ls, ys) by rw [HE.out, Nat.sub_self, pstsL]; simp)
      have HU2 : Hid (unpL xs = if ys = [] then some ls else none) := Lib.hid (by rw [HU.out, HS.out])
      have hlk := HV.out.len
      obtain ⟨A', c', rfl, _, _⟩ := ownQ_psts HV.out.own
      obtain ⟨A9, c9, hcx, _, _, _⟩ := HV.out.rd.c
      have hcL := HV.out.le.c.1
      have hcE := HV.out.le.c.2.1
      have hzL := HV.out.le.c.2.2.1
      have hzE := HV.out.le.c.2.2.2
      rcases ys with _ | ⟨y, ys⟩
      · have HZ : Hid (unpL xs = some ls) := Lib.hid (by rw [HU2.out, if_pos rfl])
        simp only [List.length_nil] at hcx
        go_wp2_with (go_at_call 24; (with_reducible refine (need_true _).mono ?_); rintro e w4 ⟨rfl, rfl⟩)
        have hl9 : LE ((w4.setCell ⟨w.heap.size, 0, none⟩ (.slice A' k c')).setCell ⟨w.heap.size + 1, 0, none⟩ (.int .i64 0)) w.heap.size (.slice A' k c') 0 := le_set HV.out.le _ _
        have ho9 : OwnQ 48 ((w4.setCell ⟨w.heap.size, 0, none⟩ (.slice A' k c')).setCell ⟨w.heap.size + 1, 0, none⟩ (.int .i64 0)) (w.heap.size + 3) (.slice A' k c') k Q :=
          ownQ_from HV.out.own (fun i hi => (HV.out.ms i hi).2.2.2.2) (fun g g1 _ => (Below.heap_setCell _ _ _ _ (by show g ≠ w.heap.size + 1; omega)).trans (Below.heap_setCell _ _ _ _ (by show g ≠ w.heap.size; omega)))
        have hb9 : Below w.heap.size w ((w4.setCell ⟨w.heap.size, 0, none⟩ (.slice A' k c')).setCell ⟨w.heap.size + 1, 0, none⟩ (.int .i64 0)) := (HV.out.bel.setCell (p := ⟨w.heap.size, 0, none⟩) (Nat.le_refl _) _).setCell (p := ⟨w.heap.size + 1, 0, none⟩) (by show w.heap.size ≤ w.heap.size + 1; omega) _
        generalize (w4.setCell ⟨w.heap.size, 0, none⟩ (.slice A' k c')).setCell ⟨w.heap.size + 1, 0, none⟩ (.int .i64 0) = W9 at hl9 ho9 hb9 ⊢
        have O9 := Lib.hid ho9
        have B9 := Lib.hid hb9
        obtain ⟨y1, y2, _, _⟩ := hl9.c
        clear hl9 ho9 hb9
        refine leaves_cons (f := 21) (args := #[.pointer (some ⟨w.heap.size, 0, none⟩), .pointer (some ⟨w.heap.size + 1, 0, none⟩)]) (by simp) (by simp [go_sem]) ?_
        refine (catch_idle ⟨w.heap.size, 0, none⟩ ⟨w.heap.size + 1, 0, none⟩ W9).mono ?_
        rintro e u' w'' ⟨rfl, rfl, rfl⟩
        simp [Leaves, settle, results, Try.results13, go_sem, y1, y2]
        exact .inl ⟨ls, _, Q, HZ.out, rfl, by rw [HV.out.len]; exact O9.out, fun i hi => HV.out.ms i (by rw [← HV.out.len]; exact hi), B9.out⟩
      · have HZ : Hid (unpL xs = none) := Lib.hid (by rw [HU2.out, if_neg (by simp)])
        simp only [List.length_cons] at hcx
        have hz0 : ((ys.length : Int) + 1 == 0) = false := by rw [beq_eq_false_iff_ne]; omega
        go_wp2_with (go_at_call 24; (with_reducible refine (need_false _).mono ?_); rintro e w4 ⟨rfl, rfl⟩)
        have hle := HV.out.le
        have HLe := Lib.hid hle
        have LB := Lib.hid HV.out.bel
        clear hle
        refine leaves_cons (f := 21) (args := #[.pointer (some ⟨w.heap.size, 0, none⟩), .pointer (some ⟨w.heap.size + 1, 0, none⟩)]) (by simp) (by simp [go_sem]) ?_
        refine (catch_panicking w.heap.size (w.heap.size + 1) [] w4 _ _ HLe.out.c.1 HLe.out.c.2.1 HLe.out.c.2.2.1 HLe.out.c.2.2.2 (by omega)).mono ?_
        rintro e u' w'' ⟨rfl, rfl, rfl⟩
        have h9 := (le_nil HLe.out).c
        have L2 : Hid (Below w.heap.size w ((World.setCell w4 ⟨w.heap.size, 0, none⟩ (.slice none 0 0)).setCell ⟨w.heap.size + 1, 0, none⟩ (.int .i64 5)).drew) := Lib.hid (((LB.out.setCell (p := ⟨w.heap.size, 0, none⟩) (Nat.le_refl _) _).setCell (p := ⟨w.heap.size + 1, 0, none⟩) (by show w.heap.size ≤ w.heap.size + 1; omega) _).drew)
        generalize ((World.setCell w4 ⟨w.heap.size, 0, none⟩ (.slice none 0 0)).setCell ⟨w.heap.size + 1, 0, none⟩ (.int .i64 5)).drew = W9 at h9 L2 ⊢
        obtain ⟨y1, y2, _, _⟩ := h9
        simp [Leaves, settle, results, Try.results13, go_sem, y1, y2]
        exact .inr ⟨HZ.out, rfl, L2.out⟩
theorem unpacked_any (A : Option Addr) (c : Nat) (xs : List Nat) (w : World) (h : RB w w.heap.size A xs) (hl : xs.length ≤ c) : Calls Try.prog 13 #[.slice A xs.length c] w (UnpEnd xs w) := by
  cases h0 : rdL 64 0 xs with
  | none =>
    refine (unpacked_no1 A c xs w h hl h0).mono fun e w' z => .inr ⟨?_, z⟩
    unfold unpL; rw [h0]
  | some p => exact unpacked_yes A c xs w h hl p.1 p.2 h0
/-- Unpack of any row of bytes: the list, or nothing and the error. -/
theorem unpack_any (A : Option Addr) (c : Nat) (xs : List Nat) (w : World) (h : RB w w.heap.size A xs) (hl : xs.length ≤ c) : Calls Try.prog 5 #[.slice A xs.length c] w (UnpEnd xs w) := by
  have HU : Hid (Calls Try.prog 13 #[.slice A xs.length c] w fun e w' => ∃ u v, e = .returned (.tuple #[u, v]) ∧ UnpEnd xs w e w') := Lib.hid ((unpacked_any A c xs w h hl).mono fun e w' z => by
    rcases z with ⟨ls, v, Q, z1, rfl, z2⟩ | ⟨z1, rfl, z2⟩
    · exact ⟨_, _, rfl, .inl ⟨ls, v, Q, z1, rfl, z2⟩⟩
    · exact ⟨_, _, rfl, .inr ⟨z1, rfl, z2⟩⟩)
  clear h hl
  generalize xs.length = n at *
  go_enter Try.func5, Try.ntmps5
  go_wp2_with (go_at_call 13; (with_reducible refine HU.out.mono ?_); rintro e w1 ⟨u, v, rfl, hz⟩; have HZ := Lib.hid hz; clear hz)
  go_ret2
  exact HZ.out
end Go.Proofs.Ythpfaaindkkpcaa
