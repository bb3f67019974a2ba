/- the document's Pack: every row of postings. -/
import Derived.Test.YthpfaaindkkpcaaBNumber
import Derived.Test.YthpfaaindkkpcaaBPack
import Derived.Test.YthpfaaindkkpcaaBRefRight
import Derived.Deep.RegionHeldLaw
namespace Go.Proofs.Ythpfaaindkkpcaa
open Go.RowKit Go.Maps
set_option linter.unusedVariables false
set_option linter.unusedSimpArgs false

theorem u8L_get {ys : List Nat} {j : Nat} {v : Value} (h : (u8L ys)[j]? = some v) : ∃ h : j < ys.length, v = .int .u8 ((ys[j] : Nat) : Int) := by
  obtain ⟨hj, e⟩ := List.getElem?_eq_some_iff.1 h
  simp at hj e
  exact ⟨hj, e.symm⟩
theorem own_u_cat {w : World} {base : Nat} {v : Value} {xs ys : List Nat} (h : w.ownsRow base 5 1 v (xs.length + ys.length) (u8L xs ++ u8L ys)) : OwnU w base v (xs ++ ys) := by
  have e1 : (xs ++ ys).length = xs.length + ys.length := by simp
  have e2 : u8L (xs ++ ys) = u8L xs ++ u8L ys := by simp [u8L]
  show w.ownsRow base 5 1 v (xs ++ ys).length (u8L (xs ++ ys))
  rw [e1, e2]; exact h
/-- What a Number's row is where it is read. -/
def NumRow (w : World) (v : Value) (m : Nat) : Prop := ∃ g c, v = .slice (some ⟨g, 0, none⟩) (numL m).length c ∧ ∀ j u, (u8L (numL m))[j]? = some u → w.cell? ((⟨g, 0, none⟩ : Addr).add j) = some u
theorem num_pos (m : Nat) : 0 < (numL m).length := by unfold numL; rw [List.length_append, List.length_singleton]; omega
theorem num_row {w : World} {base : Nat} {v : Value} {m : Nat} (h : OwnU w base v (numL m)) : NumRow w v m := by
  have h' := h
  obtain ⟨hl, ⟨hv, h0⟩ | ⟨g, cap, cur, rfl, hg, hh, r⟩⟩ := h
  · have := num_pos m; omega
  · refine ⟨g, cap, rfl, fun j u hj => ?_⟩
    obtain ⟨hlt, rfl⟩ := u8L_get hj
    have hc := World.ownsRow.cellAt (w := w) (base := base) (e := 5) (size := 1) h' j (by simpa using hlt)
    have h2 : w.cell? ⟨g, j, none⟩ = (u8L (numL m))[j]? := by simpa using hc
    have ea : (⟨g, 0, none⟩ : Addr).add j = ⟨g, j, none⟩ := by
      unfold Addr.add
      split
      · rename_i q; subst q; rfl
      · simp
    rw [ea, h2, hj]
theorem u8_one (ys : List Nat) : ∀ u ∈ u8L ys, u.oneCell' = true := by
  intro u hu
  obtain ⟨k, _, rfl⟩ := List.mem_map.1 hu
  rfl
/-- A number's bytes are put behind a row of the call's own. -/
theorem wpList_appendU {P : Program} (w : World) {ops : Array Oper} {rest : List Oper} {o : Oper} {a : Act} {Q : Exit → Act → World → Prop} (hgd : o.guard = none) (s x : Operand) (t : TypeId)
    (ho : o.op = .call { callee := .builtin .append, args := #[s, x], argTypes := #[t, t] }) (ht : P.underlying t = some (.slice 5))
    (hinfo : (P.info? 5).map (fun i => (i.zero, i.size, i.bytes)) = some (some (.int .u8 0), 1, 1))
    (base : Nat) (v : Value) (xs : List Nat) (hs : a.eval s = v) (hown : OwnU w base v xs)
    (y : Value) (m : Nat) (hx : a.eval x = y) (hy : NumRow w y m) (hm : (numL m).length ≤ 10) (hsmall : xs.length ≤ 70368744177664) (hbase : base ≤ w.heap.size)
    (h : ∀ v' w', OwnU w' base v' (xs ++ numL m) → w.grownBy w' v.ownBlock → NewOr w v v' → wpList P ops Q rest (a.put o.dst v') w') :
    wpList P ops Q (o :: rest) a w := by
  obtain ⟨i0, hi, hz0, hz1, hz2⟩ := info_parts hinfo
  obtain ⟨g, c, rfl, hc⟩ := hy
  refine wpList_append_own_at _ hgd s x t ho base 5 i0 (.int .u8 0) 1 1 ht hi hz0 hz1 hz2 rfl (by decide) v xs.length (u8L xs) hs hown ⟨g, 0, none⟩ (numL m).length c (u8L (numL m)) hx (by simp) hc (u8_one _) (by unfold maxLen; omega) (by omega) hbase ?_
  intro v' w' h1 h2 _ h4
  refine h v' w' (own_u_cat h1) h2 ?_
  rcases h4 with h4 | h4
  · exact .inl h4
  · exact .inr ⟨_, h4, Nat.le_refl _⟩
/-- The same as a step of a region that draws its order. -/
theorem step_appendU {P : Program} {ops : Array Oper} {o : Oper} {a : Act} {w : World} {K : Act → World → Prop} {Q : Exit → Act → World → Prop} {E : Prop} (hgd : o.guard = none) (s x : Operand) (t : TypeId)
    (ho : o.op = .call { callee := .builtin .append, args := #[s, x], argTypes := #[t, t] }) (ht : P.underlying t = some (.slice 5))
    (hinfo : (P.info? 5).map (fun i => (i.zero, i.size, i.bytes)) = some (some (.int .u8 0), 1, 1))
    (base : Nat) (v : Value) (xs : List Nat) (hs : a.eval s = v) (hown : OwnU w base v xs)
    (y : Value) (m : Nat) (hx : a.eval x = y) (hy : NumRow w y m) (hm : (numL m).length ≤ 10) (hsmall : xs.length ≤ 70368744177664) (hbase : base ≤ w.heap.size)
    (h : ∀ v' w', Hid (OwnU w' base v' (xs ++ numL m)) → Hid (w.grownBy w' v.ownBlock) → Hid (NewOr w v v') → K (a.put o.dst v') w') :
    if Region.wanted o (yielded ops a.tmps) = true then Oper.wp P o a w K Q else E := by
  have hw : Region.wanted o (yielded ops a.tmps) = true := by simp [Region.wanted, hgd]
  rw [if_pos hw]
  obtain ⟨i0, hi0, hz0, hz1, hz2⟩ := info_parts hinfo
  obtain ⟨g, c, rfl, hc⟩ := hy
  obtain ⟨v', w', hr, ho1, hg1, _, hb1⟩ := run_append_own_at (P := P) w base t o.type 5 i0 (.int .u8 0) 1 1 ht hi0 hz0 hz1 hz2 rfl (by omega) v xs.length _ hown ⟨g, 0, none⟩ (numL m).length c (u8L (numL m)) (by simp) hc (u8_one _) (by unfold maxLen; omega) (by omega) hbase
  unfold Oper.wp
  simp [execOp, ho, resolve, invoke, builtin, hs, hx, hr, Result.andThen]
  refine h v' w' (Lib.hid (own_u_cat ho1)) (Lib.hid hg1) (Lib.hid ?_)
  rcases hb1 with h4 | h4
  · exact .inl h4
  · exact .inr ⟨_, h4, Nat.le_refl _⟩
/-- What a round of the document's Pack holds: the row of bytes, and the box that it reads. -/
def RInv (w : World) (Bx : Nat) (cs : Array Value) (W : World) (v : Value) (ys : List Nat) : Prop :=
  OwnU W w.heap.size v ys ∧ Below w.heap.size w W ∧ W.heap[Bx]? = some (.cells cs 44 (0, 0)) ∧ some Bx ≠ v.ownBlock ∧ w.heap.size ≤ W.heap.size
theorem RInv.next {w W W' : World} {Bx : Nat} {cs : Array Value} {v v' : Value} {ys zs : List Nat} (h : RInv w Bx cs W v ys) (ho : OwnU W' w.heap.size v' zs) (hg : W.grownBy W' v.ownBlock) (hn : NewOr W v v') : RInv w Bx cs W' v' zs := by
  obtain ⟨h1, h2, h3, h4, h5⟩ := h
  have hlt := (Array.getElem?_eq_some_iff.1 h3).1
  refine ⟨ho, h2.grown hg h5 (fun k hk => (h1.lt k hk).1), (hg.block Bx hlt h4).trans h3, ?_, Nat.le_trans h5 hg.size⟩
  rcases hn with hn | ⟨k, hn, hk⟩
  · rw [hn]; exact h4
  · rw [hn]; intro e; injection e with e; omega
theorem own_belowU2 {w w' : World} {base : Nat} {v : Value} {xs : List Nat} (h : OwnU w base v xs) (hb : Below w.heap.size w w') : OwnU w' base v xs := by
  obtain ⟨hl, h0 | ⟨g, cap, cur, hv, hg, hh, r⟩⟩ := h
  · exact ⟨hl, .inl h0⟩
  · exact ⟨hl, .inr ⟨g, cap, cur, hv, hg, (hb.block g (Array.getElem?_eq_some_iff.1 hh).1).trans hh, r⟩⟩
theorem RInv.keep {w W W' : World} {Bx : Nat} {cs : Array Value} {v : Value} {ys : List Nat} (h : RInv w Bx cs W v ys) (hb : Below W.heap.size W W') : RInv w Bx cs W' v ys := by
  obtain ⟨h1, h2, h3, h4, h5⟩ := h
  exact ⟨own_belowU2 h1 hb, h2.trans (hb.mono h5), (hb.block Bx (Array.getElem?_eq_some_iff.1 h3).1).trans h3, h4, Nat.le_trans h5 hb.size⟩
theorem RInv.start {w wr : World} {v : Value} {ys : List Nat} (ho : OwnU wr w.heap.size v ys) (hb : Below w.heap.size w wr) (cs : Array Value) : RInv w wr.heap.size cs (wr.alloc (.cells cs 44)) v ys := by
  refine ⟨ho.alloc _, hb.alloc hb.size _, heap_alloc_new _ _, ?_, by have := hb.size; simp; omega⟩
  intro e
  have := (ho.lt _ e.symm).2
  omega
theorem RInv.c {w W : World} {Bx : Nat} {cs : Array Value} {v : Value} {ys : List Nat} (h : RInv w Bx cs W v ys) (j : Nat) : W.cell? ⟨Bx, j, none⟩ = cs[j]? := cell_of_row W Bx j cs _ _ h.2.2.1
theorem numStep {w : World} {Bx : Nat} {cs : Array Value} {W : World} {v : Value} {ys : List Nat} (h : RInv w Bx cs W v ys) (z : Int) (m : Nat) (hz : (m : Int) = z) (hm : m < 9223372036854775808) :
    Calls Try.prog 26 #[.int .i64 z] W fun e W' => ∃ v2, e = .returned v2 ∧ RInv w Bx cs W' v ys ∧ NumRow W' v2 m := by
  subst hz
  exact (number_any m hm W).mono fun e W' ⟨v2, he, ho, hb⟩ => ⟨v2, he, h.keep hb, num_row ho⟩
theorem duo_drew {W : World} {a b : Addr} {x y : Value} (h : W.cell? a = some x ∧ W.cell? b = some y) : W.drew.cell? a = some x ∧ W.drew.cell? b = some y := h
theorem tri_drew {W : World} {a b c : Addr} {x y z : Value} (h : W.cell? a = some x ∧ W.cell? b = some y ∧ W.cell? c = some z) : W.drew.cell? a = some x ∧ W.drew.cell? b = some y ∧ W.drew.cell? c = some z := h
theorem refPack_no {A : Option Addr} {n c : Nat} {P : Nat → Pst} (h : rightB n P = false) (w : World) (hI : Psts w A n P) : Calls Try.prog 15 #[.slice A n c] w fun e w' => e = .returned (.tuple #[.slice none 0 0, .int .i64 5]) ∧ Below w.heap.size w w' := by
  have hr := refRight_any A n c P w hI
  rw [h] at hr
  have HR := Lib.hid hr
  clear h hI hr
  go_enter Try.func15, Try.ntmps15
  go_wp2_with (go_at_call 25; (with_reducible refine HR.out.mono ?_); rintro e w1 ⟨rfl, l1⟩; have L1 := Lib.hid l1; clear l1)
  go_ret2
  exact ⟨rfl, L1.out⟩
set_option maxRecDepth 100000 in
set_option maxHeartbeats 32000000 in
theorem refPack_yes {A : Option Addr} {n c : Nat} {P : Nat → Pst} (h : rightB n P = true) (w : World) (hI : Psts w A n P) : Calls Try.prog 15 #[.slice A n c] w fun e w' => ∃ v, e = .returned (.tuple #[v, .int .i64 0]) ∧ OwnU w' w.heap.size v (packL n P) ∧ Below w.heap.size w w' := by
  have hr := refRight_any A n c P w hI
  rw [h] at hr
  have HR := Lib.hid hr
  obtain ⟨h64, hT⟩ := (of_decide_eq_true h : RightP n P)
  have HI := Lib.hid hI
  have HT := Lib.hid hT
  clear h hI hr hT
  go_enter Try.func15, Try.ntmps15
  go_wp2_with (first
    | (go_at_call 25; (with_reducible refine HR.out.mono ?_); rintro e w1 ⟨rfl, l1⟩; have L1 := Lib.hid l1; clear l1)
    | (go_at_call 26; (with_reducible refine (number_any n (by omega) w1).mono ?_); rintro e w2 ⟨v1, rfl, o2, l2⟩; have O2 := Lib.hid (own_below o2 L1.out.size); have L2 := Lib.hid (L1.out.trans (l2.mono L1.out.size)); clear o2 l2))
  go_loopw [4, 5] (fun v i wr => ∃ k : Nat, k ≤ n ∧ i = .int .i64 k ∧ OwnU wr w.heap.size v (numL n ++ allL P k) ∧ Below w.heap.size w wr) (fun _ i _ => n - (intOf i).toNat)
  case atStart => exact ⟨0, by omega, rfl, by simpa [allL] using O2.out, L2.out⟩
  case round =>
    obtain ⟨k, hk, rfl, ho, hb⟩ := hrel
    have hrg := rows_ge (fun i hi => HT.out i (by omega) : RightTo P k)
    have hal := all_len k (fun i hi => HT.out i (by omega) : RightTo P k)
    have hnl := numL_len1 h64
    by_cases hlt : k < n
    · obtain ⟨b, o, hA, hbl, hc⟩ := HI.out.at_ (by omega)
      subst hA
      have hk3 := hc k hlt
      have q0 := kcell hb hbl hk3.c0
      have q1 := kcell hb hbl hk3.c1
      have q2 := kcell hb hbl hk3.c2
      have HIk := Lib.hid (HI.out.2.1 k hlt).1
      have hmay := (HT.out k hlt).2
      have hah := (HT.out k hlt).1
      have HAll : Hid (allL P (k + 1) = allL P k ++ oneL (aheadF (rowsF P) k) (P k)) := Lib.hid rfl
      by_cases hk0 : k = 0
      · subst hk0
        have e0 : aheadF (rowsF P) 0 = -1 := by unfold aheadF; rw [if_pos rfl]
        rw [e0] at hrg hah HAll
        rw [Nat.zero_mul, Nat.add_zero] at q0 q1 q2
        clear hc hk3 e0
        generalize allL P 0 = al at *
        generalize P 0 = p at *
        obtain ⟨pr, pl, pA, pn, pc, pF⟩ := p
        dsimp only at q0 q1 q2 HIk hmay hah
        obtain ⟨ah, hahe⟩ : ∃ ah : Int, ah = -1 := ⟨_, rfl⟩
        rw [← hahe] at HAll
        have hml := may_len hmay
        obtain ⟨m1, m2, m3, m4, m5, m6⟩ := id hmay
        have HG := Lib.hid m6
        have hhl := head_len (a := ah) (p := ⟨pr, pl, pA, pn, pc, pF⟩) (by omega) hmay
        have HPI := Lib.hid (RInv.start ho hb #[.int .i64 pr, .int .i64 pl, .slice pA pn pc])
        have HB := Lib.hid hb
        have hys : (numL n ++ al).length ≤ 1000000000 := by rw [List.length_append]; omega
        have HY := Lib.hid hys
        have HN1 := Lib.hid (num_len (gap_lt (n := pr) (a := ah) m2 (by omega)))
        have HN2 := Lib.hid (num_len (gap_lt (n := pl) (a := 0) (by omega) (by omega)))
        have HN3 := Lib.hid (num_len (gap_lt (n := (pn : Int)) (a := 0) (by omega) (by omega)))
        have HAL := Lib.hid (fun t (h : GoodTo pl pF t) => ats_len m4 t h)
        have HAll2 : Hid (numL n ++ allL P (0 + 1) = numL n ++ al ++ headL ah ⟨pr, pl, pA, pn, pc, pF⟩ ++ atsL pF pn) := Lib.hid (by rw [HAll.out]; unfold oneL; simp only [List.append_assoc])
        have HHl := Lib.hid hhl
        have HZ : Hid (((gapN pr ah : Nat) : Int) = pr) := Lib.hid (by rw [hahe]; unfold gapN; omega)
        have HZ2 : Hid (gapN pr ah < 9223372036854775808) := Lib.hid (by rw [hahe]; unfold gapN; omega)
        clear ho hb hmay m6 hys hal hnl hhl HAll hahe
        generalize numL n ++ al = ys at *
        go_wp2_with (first
          | (go_at_call 26; (with_reducible refine (numStep HPI.out pr (gapN pr ah) HZ.out HZ2.out).mono ?_); rintro e W1 ⟨y1, rfl, p1, r1⟩; have P1 := Lib.hid p1; have R1 := Lib.hid r1; clear p1 r1)
          | (at_builtin; refine wpList_appendU W1 rfl _ _ 22 rfl Try.underlying22 u8infoAll w.heap.size u4 _ rfl P1.out.1 y1 (gapN pr ah) rfl R1.out HN1.out (by have := HY.out; omega) P1.out.2.2.2.2 ?_; intro v2 W2 ho hg hn; have P2 := Lib.hid (P1.out.next ho hg hn); have d1 : W2.cell? ⟨wr.heap.size, 1, none⟩ = some (.int .i64 pl) := P2.out.c 1; clear ho hg hn)
          | fail)
        have d1 : W2.cell? ⟨wr.heap.size, 1, none⟩ = some (.int .i64 pl) := P2.out.c 1
        have d2 : W2.cell? ⟨wr.heap.size, 2, none⟩ = some (.slice pA pn pc) := P2.out.c 2
        go_wp2_with (first
          | (go_at_call 26; (with_reducible refine (numStep P2.out (pl - 1) (gapN pl 0) (by unfold gapN; omega) (by unfold gapN; omega)).mono ?_); rintro e W11 ⟨y11, rfl, p11, r11⟩; have P11 := Lib.hid p11; have R11 := Lib.hid r11; clear p11 r11)
          | (at_builtin; refine wpList_appendU W11 rfl _ _ 22 rfl Try.underlying22 u8infoAll w.heap.size v2 _ rfl P11.out.1 y11 (gapN pl 0) rfl R11.out HN2.out (by have := HY.out; have := HN1.out; simp only [List.length_append]; omega) P11.out.2.2.2.2 ?_; intro v12 W12 ho hg hn; have P12 := Lib.hid (P11.out.next ho hg hn); have d4 : W12.cell? ⟨wr.heap.size, 2, none⟩ = some (.slice pA pn pc) := P12.out.c 2; clear ho hg hn)
          | (go_at_call 26; (with_reducible refine (numStep P12.out ((pn : Int) - 1) (gapN (pn : Int) 0) (by unfold gapN; omega) (by unfold gapN; omega)).mono ?_); rintro e W13 ⟨y13, rfl, p13, r13⟩; have P13 := Lib.hid p13; have R13 := Lib.hid r13; clear p13 r13)
          | (at_builtin; refine wpList_appendU W13 rfl _ _ 22 rfl Try.underlying22 u8infoAll w.heap.size v12 _ rfl P13.out.1 y13 (gapN (pn : Int) 0) rfl R13.out HN3.out (by have := HY.out; have := HN1.out; have := HN2.out; simp only [List.length_append]; omega) P13.out.2.2.2.2 ?_; intro v14 W14 ho hg hn; have P14 := Lib.hid (P13.out.next ho hg hn); clear ho hg hn))
        have HEq : Hid (ys ++ numL (gapN pr ah) ++ numL (gapN pl 0) ++ numL (gapN (pn : Int) 0) = ys ++ headL ah ⟨pr, pl, pA, pn, pc, pF⟩) := Lib.hid (by unfold headL; simp only [List.append_assoc])
        have HK3 := Lib.hid (show RInv w wr.heap.size #[.int .i64 pr, .int .i64 pl, .slice pA pn pc] W14 v14 (ys ++ headL ah ⟨pr, pl, pA, pn, pc, pF⟩) by rw [← HEq.out]; exact P14.out)
        clear q0 q1 q2 d1 d2 d4
        clear P11 P12 P13 P14 R11 R13
        obtain ⟨wo, HW⟩ : ∃ wo : World, Hid (wo = wr) := ⟨_, Lib.hid rfl⟩
        obtain ⟨Bx, hBx⟩ : ∃ Bx, Bx = wr.heap.size := ⟨_, rfl⟩
        rw [← hBx] at HK3 ⊢
        clear hBx HPI
        go_loopw [4, 7] (fun v i wx => ∃ t : Nat, t ≤ pn ∧ i = .int .i64 t ∧ RInv w Bx #[.int .i64 pr, .int .i64 pl, .slice pA pn pc] wx v (ys ++ headL ah ⟨pr, pl, pA, pn, pc, pF⟩ ++ atsL pF t)) (fun _ i _ => pn - (intOf i).toNat)
        case atStart => exact ⟨0, by omega, rfl, by simpa [atsL] using HK3.out⟩
        case round =>
          obtain ⟨t, ht, rfl, hp⟩ := hrel
          have hga := ahead_ge (fun i hi => HG.out i (by omega) : GoodTo pl pF t)
          have hat := HAL.out t (fun i hi => HG.out i (by omega))
          have e2 : wr.cell? ⟨Bx, 2, none⟩ = some (.slice pA pn pc) := hp.c 2
          by_cases hlt2 : t < pn
          · obtain ⟨b2, o2, hA2, hbl2, hc2⟩ := HIk.out.at_ (by omega)
            subst hA2
            have hcx := kcell hp.2.1 hbl2 (hc2 t hlt2)
            have hsn := HG.out t hlt2
            have HAt : Hid (atsL pF (t + 1) = atsL pF t ++ numL (gapN (pF t) (aheadF pF t))) := Lib.hid rfl
            have HPp := Lib.hid hp
            have hbw := hp.2.2.2.2
            obtain ⟨s1, s2⟩ := hsn
            have HLn := Lib.hid hat
            have f0 : 0 ≤ pF t := by omega
            by_cases ht0 : t = 0
            · subst ht0
              have ea : aheadF pF 0 = -1 := by unfold aheadF; rw [if_pos rfl]
              rw [ea] at HAt s1 hga
              rw [Nat.add_zero] at hcx
              have HNf := Lib.hid (num_len (gap_lt (n := pF 0) (a := -1) (by omega) (by omega)))
              clear hp hc2 hat ea
              generalize pF 0 = f at *
              generalize atsL pF 0 = ax2 at *
              go_wp2_with (first
                | (go_at_call 26; (with_reducible refine (numStep HPp.out f (gapN f (-1)) (by unfold gapN; omega) (by unfold gapN; omega)).mono ?_); rintro e W21 ⟨y21, rfl, p21, r21⟩; have P21 := Lib.hid p21; have R21 := Lib.hid r21; clear p21 r21)
                | (at_builtin; refine wpList_appendU W21 rfl _ _ 22 rfl Try.underlying22 u8infoAll w.heap.size u4 _ rfl P21.out.1 y21 (gapN f (-1)) rfl R21.out HNf.out (by have := HY.out; have := HHl.out; have := HLn.out; simp only [List.length_append]; omega) P21.out.2.2.2.2 ?_; intro v22 W22 ho hg hn; have P22 := Lib.hid (P21.out.next ho hg hn); clear ho hg hn))
              go_roundw
              case rel => exact ⟨0 + 1, by omega, by go_num, by rw [HAt.out, ← List.append_assoc]; exact P22.out⟩
              case measure => simp [intOf]; omega
            · obtain ⟨q, rfl⟩ : ∃ q, t = q + 1 := ⟨t - 1, by omega⟩
              have hcq := kcell hp.2.1 hbl2 (hc2 q (by omega))
              have ea : aheadF pF (q + 1) = pF q := aheadF_succ pF q
              rw [ea] at HAt s1 hga
              have HNf := Lib.hid (num_len (gap_lt (n := pF (q + 1)) (a := pF q) (by omega) (by omega)))
              have HYs : Hid ((ys ++ headL ah ⟨pr, pl, some ⟨b2, o2, none⟩, pn, pc, pF⟩ ++ atsL pF (q + 1)).length ≤ 70368744177664) := Lib.hid (by have := HY.out; have := HHl.out; have := HLn.out; simp only [List.length_append]; omega)
              have i1 : (0 : Int) ≤ (q : Int) + 1 := by omega
              have i3 : q < pn := by omega
              have wq : IntKind.i64.wrap (q : Int) = q := IntWalk.i64_in _ (by omega)
              have HC := Lib.hid (And.intro (hc2 (q + 1) hlt2) (hc2 q (by omega)))
              clear hp hc2 hat ea ht0
              generalize pF (q + 1) = f at *
              generalize pF q = f2 at *
              generalize atsL pF (q + 1) = ax2 at *
              have hd1 : IntKind.i64.wrap (f - f2) = f - f2 := IntWalk.i64_in _ (by omega)
              have hd2 : IntKind.i64.wrap (f - f2 - 1) = f - f2 - 1 := IntWalk.i64_in _ (by omega)
              have SC : Hid (wr.cell? ⟨Bx, 2, none⟩ = some (.slice (some ⟨b2, o2, none⟩) pn pc) ∧ wr.cell? ⟨b2, o2 + (q + 1), none⟩ = some (.int .i64 f) ∧ wr.cell? ⟨b2, o2 + q, none⟩ = some (.int .i64 f2)) := Lib.hid ⟨e2, hcx, hcq⟩
              have HNS : Hid (∀ W, RInv w Bx #[.int .i64 pr, .int .i64 pl, .slice (some ⟨b2, o2, none⟩) pn pc] W u4 (ys ++ headL ah ⟨pr, pl, some ⟨b2, o2, none⟩, pn, pc, pF⟩ ++ ax2) → Calls Try.prog 26 #[.int .i64 (f - f2 - 1)] W fun e W' => ∃ v2, e = .returned v2 ∧ RInv w Bx #[.int .i64 pr, .int .i64 pl, .slice (some ⟨b2, o2, none⟩) pn pc] W' u4 (ys ++ headL ah ⟨pr, pl, some ⟨b2, o2, none⟩, pn, pc, pF⟩ ++ ax2) ∧ NumRow W' v2 (gapN f f2)) := Lib.hid fun W h => numStep h (f - f2 - 1) (gapN f f2) (by unfold gapN; omega) (by unfold gapN; omega)
              have HFk : Hid (∀ W v ys', RInv w Bx #[.int .i64 pr, .int .i64 pl, .slice (some ⟨b2, o2, none⟩) pn pc] W v ys' → W.cell? ⟨Bx, 2, none⟩ = some (.slice (some ⟨b2, o2, none⟩) pn pc) ∧ W.cell? ⟨b2, o2 + (q + 1), none⟩ = some (.int .i64 f) ∧ W.cell? ⟨b2, o2 + q, none⟩ = some (.int .i64 f2)) := Lib.hid fun W v ys' h => ⟨h.c 2, kcell h.2.1 hbl2 HC.out.1, kcell h.2.1 hbl2 HC.out.2⟩
              have HPd := Lib.hid (HPp.out.keep ((Below.refl _ _).drew))
              go_wp2_with fail
              go_region_held_law (fun W => W.cell? ⟨Bx, 2, none⟩ = some (.slice (some ⟨b2, o2, none⟩) pn pc) ∧ W.cell? ⟨b2, o2 + (q + 1), none⟩ = some (.int .i64 f) ∧ W.cell? ⟨b2, o2 + q, none⟩ = some (.int .i64 f2)) (repeat (first | with_reducible assumption | with_reducible exact SC.out | with_reducible refine tri_drew ?_)) (first
                | (go_at_call 26; (with_reducible refine (HNS.out _ HPd.out).mono ?_); rintro e W21 ⟨y21, rfl, p21, r21⟩; have hS21 := HFk.out _ _ _ p21; have P21 := Lib.hid p21; have R21 := Lib.hid r21; clear p21 r21)
                | (refine step_appendU rfl (.tmp 74) (.tmp 88) 22 rfl Try.underlying22 u8infoAll w.heap.size u4 (ys ++ headL ah ⟨pr, pl, some ⟨b2, o2, none⟩, pn, pc, pF⟩ ++ ax2) rfl P21.out.1 y21 (gapN f f2) rfl R21.out HNf.out HYs.out P21.out.2.2.2.2 ?_; intro v22 W22 ho hg hn; have P22 := Lib.hid (P21.out.next ho.out hg.out hn.out); have hS22 := HFk.out _ _ _ P22.out; clear ho hg hn))
              clear hS21 hS22 hd1 hd2 wq i1
              go_wp2_with fail
              go_roundw
              case rel => exact ⟨q + 1 + 1, by omega, by go_num, by rw [HAt.out, ← List.append_assoc]; exact P22.out⟩
              case measure => simp [intOf]; omega
          · obtain rfl : t = pn := by omega
            have HPp := Lib.hid hp
            clear hp hat
            go_wp2_with fail
            go_roundw
            case rel => exact ⟨0 + 1, by omega, by go_num, by rw [HAll2.out]; exact HPp.out.1, HPp.out.2.1⟩
            case measure => simp [intOf]; omega
      · obtain ⟨r, rfl⟩ : ∃ r, k = r + 1 := ⟨k - 1, by omega⟩
        have qp := (hc r (by omega)).c0
        have e0 : aheadF (rowsF P) (r + 1) = (P r).row := aheadF_succ (rowsF P) r
        rw [e0] at hrg hah HAll
        have i1 : (0 : Int) ≤ (r : Int) + 1 := by omega
        have i3 : r < n := by omega
        have wq : IntKind.i64.wrap (r : Int) = r := IntWalk.i64_in _ (by omega)
        clear hc hk3 e0 hk0
        generalize allL P (r + 1) = al at *
        generalize P (r + 1) = p at *
        obtain ⟨pr, pl, pA, pn, pc, pF⟩ := p
        dsimp only at q0 q1 q2 HIk hmay hah
        obtain ⟨ah, hahe⟩ : ∃ ah : Int, ah = (P r).row := ⟨_, rfl⟩
        rw [← hahe] at HAll hrg hah qp
        have hml := may_len hmay
        obtain ⟨m1, m2, m3, m4, m5, m6⟩ := id hmay
        have HG := Lib.hid m6
        have hhl := head_len (a := ah) (p := ⟨pr, pl, pA, pn, pc, pF⟩) (by omega) hmay
        have HPI := Lib.hid (RInv.start ho hb #[.int .i64 pr, .int .i64 pl, .slice pA pn pc])
        have HB := Lib.hid hb
        have hys : (numL n ++ al).length ≤ 1000000000 := by rw [List.length_append]; omega
        have HY := Lib.hid hys
        have HN1 := Lib.hid (num_len (gap_lt (n := pr) (a := ah) m2 (by omega)))
        have HN2 := Lib.hid (num_len (gap_lt (n := pl) (a := 0) (by omega) (by omega)))
        have HN3 := Lib.hid (num_len (gap_lt (n := (pn : Int)) (a := 0) (by omega) (by omega)))
        have HAL := Lib.hid (fun t (h : GoodTo pl pF t) => ats_len m4 t h)
        have HAll2 : Hid (numL n ++ allL P (r + 1 + 1) = numL n ++ al ++ headL ah ⟨pr, pl, pA, pn, pc, pF⟩ ++ atsL pF pn) := Lib.hid (by rw [HAll.out]; unfold oneL; simp only [List.append_assoc])
        have HHl := Lib.hid hhl
        have HYs0 : Hid ((numL n ++ al).length ≤ 70368744177664) := Lib.hid (by omega)
        have hd1 : IntKind.i64.wrap (pr - ah) = pr - ah := IntWalk.i64_in _ (by omega)
        have hd2 : IntKind.i64.wrap (pr - ah - 1) = pr - ah - 1 := IntWalk.i64_in _ (by omega)
        clear hb hmay m6 hys hal hnl hhl HAll hahe ho
        generalize numL n ++ al = ys at *
        have HNS : Hid (∀ W, RInv w wr.heap.size #[.int .i64 pr, .int .i64 pl, .slice pA pn pc] W u4 ys → Calls Try.prog 26 #[.int .i64 (pr - ah - 1)] W fun e W' => ∃ v2, e = .returned v2 ∧ RInv w wr.heap.size #[.int .i64 pr, .int .i64 pl, .slice pA pn pc] W' u4 ys ∧ NumRow W' v2 (gapN pr ah)) := Lib.hid fun W h => numStep h (pr - ah - 1) (gapN pr ah) (by unfold gapN; omega) (by unfold gapN; omega)
        have HFk : Hid (∀ W v ys', RInv w wr.heap.size #[.int .i64 pr, .int .i64 pl, .slice pA pn pc] W v ys' → W.cell? ⟨wr.heap.size, 0, none⟩ = some (.int .i64 pr) ∧ W.cell? ⟨b, o + r * 3, none⟩ = some (.int .i64 ah)) := Lib.hid fun W v ys' h => ⟨h.c 0, kcell h.2.1 hbl qp⟩
        have SC := Lib.hid (HFk.out _ _ _ HPI.out)
        have HPd := Lib.hid (HPI.out.keep ((Below.refl _ _).drew))
        obtain ⟨x1, x2⟩ := id SC.out
        go_wp2_with fail
        go_region_held_law (fun W => W.cell? ⟨wr.heap.size, 0, none⟩ = some (.int .i64 pr) ∧ W.cell? ⟨b, o + r * 3, none⟩ = some (.int .i64 ah)) (repeat (first | with_reducible assumption | with_reducible exact SC.out | with_reducible refine duo_drew ?_)) (first
          | (go_at_call 26; (with_reducible refine (HNS.out _ HPd.out).mono ?_); rintro e W1 ⟨y1, rfl, p1, r1⟩; have hS21 := HFk.out _ _ _ p1; have P1 := Lib.hid p1; have R1 := Lib.hid r1; clear p1 r1)
          | (refine step_appendU rfl (.tmp 31) (.tmp 42) 22 rfl Try.underlying22 u8infoAll w.heap.size u4 ys rfl P1.out.1 y1 (gapN pr ah) rfl R1.out HN1.out HYs0.out P1.out.2.2.2.2 ?_; intro v2 W2 ho hg hn; have P2 := Lib.hid (P1.out.next ho.out hg.out hn.out); have hS22 := HFk.out _ _ _ P2.out; clear ho hg hn))
        clear hS21 hS22 hd1 hd2 wq i1 x1 x2 SC HPd
        have d1 : W2.cell? ⟨wr.heap.size, 1, none⟩ = some (.int .i64 pl) := P2.out.c 1
        have d2 : W2.cell? ⟨wr.heap.size, 2, none⟩ = some (.slice pA pn pc) := P2.out.c 2
        go_wp2_with (first
          | (go_at_call 26; (with_reducible refine (numStep P2.out (pl - 1) (gapN pl 0) (by unfold gapN; omega) (by unfold gapN; omega)).mono ?_); rintro e W11 ⟨y11, rfl, p11, r11⟩; have P11 := Lib.hid p11; have R11 := Lib.hid r11; clear p11 r11)
          | (at_builtin; refine wpList_appendU W11 rfl _ _ 22 rfl Try.underlying22 u8infoAll w.heap.size v2 _ rfl P11.out.1 y11 (gapN pl 0) rfl R11.out HN2.out (by have := HY.out; have := HN1.out; simp only [List.length_append]; omega) P11.out.2.2.2.2 ?_; intro v12 W12 ho hg hn; have P12 := Lib.hid (P11.out.next ho hg hn); have d4 : W12.cell? ⟨wr.heap.size, 2, none⟩ = some (.slice pA pn pc) := P12.out.c 2; clear ho hg hn)
          | (go_at_call 26; (with_reducible refine (numStep P12.out ((pn : Int) - 1) (gapN (pn : Int) 0) (by unfold gapN; omega) (by unfold gapN; omega)).mono ?_); rintro e W13 ⟨y13, rfl, p13, r13⟩; have P13 := Lib.hid p13; have R13 := Lib.hid r13; clear p13 r13)
          | (at_builtin; refine wpList_appendU W13 rfl _ _ 22 rfl Try.underlying22 u8infoAll w.heap.size v12 _ rfl P13.out.1 y13 (gapN (pn : Int) 0) rfl R13.out HN3.out (by have := HY.out; have := HN1.out; have := HN2.out; simp only [List.length_append]; omega) P13.out.2.2.2.2 ?_; intro v14 W14 ho hg hn; have P14 := Lib.hid (P13.out.next ho hg hn); clear ho hg hn))
        have HEq : Hid (ys ++ numL (gapN pr ah) ++ numL (gapN pl 0) ++ numL (gapN (pn : Int) 0) = ys ++ headL ah ⟨pr, pl, pA, pn, pc, pF⟩) := Lib.hid (by unfold headL; simp only [List.append_assoc])
        have HK3 := Lib.hid (show RInv w wr.heap.size #[.int .i64 pr, .int .i64 pl, .slice pA pn pc] W14 v14 (ys ++ headL ah ⟨pr, pl, pA, pn, pc, pF⟩) by rw [← HEq.out]; exact P14.out)
        clear q0 q1 q2 d1 d2 d4
        clear P11 P12 P13 P14 R11 R13
        obtain ⟨wo, HW⟩ : ∃ wo : World, Hid (wo = wr) := ⟨_, Lib.hid rfl⟩
        obtain ⟨Bx, hBx⟩ : ∃ Bx, Bx = wr.heap.size := ⟨_, rfl⟩
        rw [← hBx] at HK3 ⊢
        clear hBx HPI
        go_loopw [4, 7] (fun v i wx => ∃ t : Nat, t ≤ pn ∧ i = .int .i64 t ∧ RInv w Bx #[.int .i64 pr, .int .i64 pl, .slice pA pn pc] wx v (ys ++ headL ah ⟨pr, pl, pA, pn, pc, pF⟩ ++ atsL pF t)) (fun _ i _ => pn - (intOf i).toNat)
        case atStart => exact ⟨0, by omega, rfl, by simpa [atsL] using HK3.out⟩
        case round =>
          obtain ⟨t, ht, rfl, hp⟩ := hrel
          have hga := ahead_ge (fun i hi => HG.out i (by omega) : GoodTo pl pF t)
          have hat := HAL.out t (fun i hi => HG.out i (by omega))
          have e2 : wr.cell? ⟨Bx, 2, none⟩ = some (.slice pA pn pc) := hp.c 2
          by_cases hlt2 : t < pn
          · obtain ⟨b2, o2, hA2, hbl2, hc2⟩ := HIk.out.at_ (by omega)
            subst hA2
            have hcx := kcell hp.2.1 hbl2 (hc2 t hlt2)
            have hsn := HG.out t hlt2
            have HAt : Hid (atsL pF (t + 1) = atsL pF t ++ numL (gapN (pF t) (aheadF pF t))) := Lib.hid rfl
            have HPp := Lib.hid hp
            have hbw := hp.2.2.2.2
            obtain ⟨s1, s2⟩ := hsn
            have HLn := Lib.hid hat
            have f0 : 0 ≤ pF t := by omega
            by_cases ht0 : t = 0
            · subst ht0
              have ea : aheadF pF 0 = -1 := by unfold aheadF; rw [if_pos rfl]
              rw [ea] at HAt s1 hga
              rw [Nat.add_zero] at hcx
              have HNf := Lib.hid (num_len (gap_lt (n := pF 0) (a := -1) (by omega) (by omega)))
              clear hp hc2 hat ea
              generalize pF 0 = f at *
              generalize atsL pF 0 = ax2 at *
              go_wp2_with (first
                | (go_at_call 26; (with_reducible refine (numStep HPp.out f (gapN f (-1)) (by unfold gapN; omega) (by unfold gapN; omega)).mono ?_); rintro e W21 ⟨y21, rfl, p21, r21⟩; have P21 := Lib.hid p21; have R21 := Lib.hid r21; clear p21 r21)
                | (at_builtin; refine wpList_appendU W21 rfl _ _ 22 rfl Try.underlying22 u8infoAll w.heap.size u4 _ rfl P21.out.1 y21 (gapN f (-1)) rfl R21.out HNf.out (by have := HY.out; have := HHl.out; have := HLn.out; simp only [List.length_append]; omega) P21.out.2.2.2.2 ?_; intro v22 W22 ho hg hn; have P22 := Lib.hid (P21.out.next ho hg hn); clear ho hg hn))
              go_roundw
              case rel => exact ⟨0 + 1, by omega, by go_num, by rw [HAt.out, ← List.append_assoc]; exact P22.out⟩
              case measure => simp [intOf]; omega
            · obtain ⟨q, rfl⟩ : ∃ q, t = q + 1 := ⟨t - 1, by omega⟩
              have hcq := kcell hp.2.1 hbl2 (hc2 q (by omega))
              have ea : aheadF pF (q + 1) = pF q := aheadF_succ pF q
              rw [ea] at HAt s1 hga
              have HNf := Lib.hid (num_len (gap_lt (n := pF (q + 1)) (a := pF q) (by omega) (by omega)))
              have HYs : Hid ((ys ++ headL ah ⟨pr, pl, some ⟨b2, o2, none⟩, pn, pc, pF⟩ ++ atsL pF (q + 1)).length ≤ 70368744177664) := Lib.hid (by have := HY.out; have := HHl.out; have := HLn.out; simp only [List.length_append]; omega)
              have i1 : (0 : Int) ≤ (q : Int) + 1 := by omega
              have i3 : q < pn := by omega
              have wq : IntKind.i64.wrap (q : Int) = q := IntWalk.i64_in _ (by omega)
              have HC := Lib.hid (And.intro (hc2 (q + 1) hlt2) (hc2 q (by omega)))
              clear hp hc2 hat ea ht0
              generalize pF (q + 1) = f at *
              generalize pF q = f2 at *
              generalize atsL pF (q + 1) = ax2 at *
              have hd1 : IntKind.i64.wrap (f - f2) = f - f2 := IntWalk.i64_in _ (by omega)
              have hd2 : IntKind.i64.wrap (f - f2 - 1) = f - f2 - 1 := IntWalk.i64_in _ (by omega)
              have SC : Hid (wr.cell? ⟨Bx, 2, none⟩ = some (.slice (some ⟨b2, o2, none⟩) pn pc) ∧ wr.cell? ⟨b2, o2 + (q + 1), none⟩ = some (.int .i64 f) ∧ wr.cell? ⟨b2, o2 + q, none⟩ = some (.int .i64 f2)) := Lib.hid ⟨e2, hcx, hcq⟩
              have HNS : Hid (∀ W, RInv w Bx #[.int .i64 pr, .int .i64 pl, .slice (some ⟨b2, o2, none⟩) pn pc] W u4 (ys ++ headL ah ⟨pr, pl, some ⟨b2, o2, none⟩, pn, pc, pF⟩ ++ ax2) → Calls Try.prog 26 #[.int .i64 (f - f2 - 1)] W fun e W' => ∃ v2, e = .returned v2 ∧ RInv w Bx #[.int .i64 pr, .int .i64 pl, .slice (some ⟨b2, o2, none⟩) pn pc] W' u4 (ys ++ headL ah ⟨pr, pl, some ⟨b2, o2, none⟩, pn, pc, pF⟩ ++ ax2) ∧ NumRow W' v2 (gapN f f2)) := Lib.hid fun W h => numStep h (f - f2 - 1) (gapN f f2) (by unfold gapN; omega) (by unfold gapN; omega)
              have HFk : Hid (∀ W v ys', RInv w Bx #[.int .i64 pr, .int .i64 pl, .slice (some ⟨b2, o2, none⟩) pn pc] W v ys' → W.cell? ⟨Bx, 2, none⟩ = some (.slice (some ⟨b2, o2, none⟩) pn pc) ∧ W.cell? ⟨b2, o2 + (q + 1), none⟩ = some (.int .i64 f) ∧ W.cell? ⟨b2, o2 + q, none⟩ = some (.int .i64 f2)) := Lib.hid fun W v ys' h => ⟨h.c 2, kcell h.2.1 hbl2 HC.out.1, kcell h.2.1 hbl2 HC.out.2⟩
              have HPd := Lib.hid (HPp.out.keep ((Below.refl _ _).drew))
              go_wp2_with fail
              go_region_held_law (fun W => W.cell? ⟨Bx, 2, none⟩ = some (.slice (some ⟨b2, o2, none⟩) pn pc) ∧ W.cell? ⟨b2, o2 + (q + 1), none⟩ = some (.int .i64 f) ∧ W.cell? ⟨b2, o2 + q, none⟩ = some (.int .i64 f2)) (repeat (first | with_reducible assumption | with_reducible exact SC.out | with_reducible refine tri_drew ?_)) (first
                | (go_at_call 26; (with_reducible refine (HNS.out _ HPd.out).mono ?_); rintro e W21 ⟨y21, rfl, p21, r21⟩; have hS21 := HFk.out _ _ _ p21; have P21 := Lib.hid p21; have R21 := Lib.hid r21; clear p21 r21)
                | (refine step_appendU rfl (.tmp 74) (.tmp 88) 22 rfl Try.underlying22 u8infoAll w.heap.size u4 (ys ++ headL ah ⟨pr, pl, some ⟨b2, o2, none⟩, pn, pc, pF⟩ ++ ax2) rfl P21.out.1 y21 (gapN f f2) rfl R21.out HNf.out HYs.out P21.out.2.2.2.2 ?_; intro v22 W22 ho hg hn; have P22 := Lib.hid (P21.out.next ho.out hg.out hn.out); have hS22 := HFk.out _ _ _ P22.out; clear ho hg hn))
              clear hS21 hS22 hd1 hd2 wq i1
              go_wp2_with fail
              go_roundw
              case rel => exact ⟨q + 1 + 1, by omega, by go_num, by rw [HAt.out, ← List.append_assoc]; exact P22.out⟩
              case measure => simp [intOf]; omega
          · obtain rfl : t = pn := by omega
            have HPp := Lib.hid hp
            clear hp hat
            go_wp2_with fail
            go_roundw
            case rel => exact ⟨r + 1 + 1, by omega, by go_num, by rw [HAll2.out]; exact HPp.out.1, HPp.out.2.1⟩
            case measure => simp [intOf]; omega
    · obtain rfl : n = k := by omega
      have HO := Lib.hid ho
      have HB := Lib.hid hb
      clear ho hb hal hrg
      go_wp2_with fail
      go_ret2
      exact ⟨_, rfl, HO.out, HB.out⟩
end Go.Proofs.Ythpfaaindkkpcaa
