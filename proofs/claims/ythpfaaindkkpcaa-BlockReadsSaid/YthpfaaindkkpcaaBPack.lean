/- block.packed, Pack: every row of postings. -/
import Derived.Test.YthpfaaindkkpcaaBPut
import Derived.Test.YthpfaaindkkpcaaBPsts
namespace Go.Proofs.Ythpfaaindkkpcaa
open Go.RowKit Go.Maps
set_option linter.unusedVariables false
set_option linter.unusedSimpArgs false

def atsL (F : Nat → Int) : Nat → List Nat
  | 0 => []
  | k + 1 => atsL F k ++ numL (gapN (F k) (aheadF F k))
def headL (ahead : Int) (p : Pst) : List Nat := numL (gapN p.row ahead) ++ numL (gapN p.len 0) ++ numL (gapN p.n 0)
def oneL (ahead : Int) (p : Pst) : List Nat := headL ahead p ++ atsL p.F p.n
def allL (P : Nat → Pst) : Nat → List Nat
  | 0 => []
  | k + 1 => allL P k ++ oneL (aheadF (rowsF P) k) (P k)
def packL (n : Nat) (P : Nat → Pst) : List Nat := numL n ++ allL P n
theorem gap_lt {n a : Int} (h : n ≤ 9007199254740992) (h2 : -1 ≤ a) : gapN n a < 9223372036854775808 := by unfold gapN; omega
theorem ahead_ge {F : Nat → Int} {len : Int} {k : Nat} (h : GoodTo len F k) : -1 ≤ aheadF F k := by
  unfold aheadF
  split
  · omega
  · have := good_ge h (k - 1) (by omega); omega
theorem ats_len {len : Int} {F : Nat → Int} (hl : len ≤ 1048576) : ∀ k, GoodTo len F k → (atsL F k).length ≤ 10 * k := by
  intro k
  induction k with
  | zero => intro _; simp [atsL]
  | succ k ih =>
    intro h
    have h1 := ih (fun i hi => h i (by omega))
    have h2 := num_len (gap_lt (n := F k) (a := aheadF F k) (by have := (h k (by omega)).2; omega) (ahead_ge (fun i hi => h i (by omega))))
    rw [atsL, List.length_append]; omega
theorem rows_ge {P : Nat → Pst} {k : Nat} (h : RightTo P k) : -1 ≤ aheadF (rowsF P) k := by
  unfold aheadF
  split
  · omega
  · have := (h (k - 1) (by omega)).2.1; show -1 ≤ (P (k - 1)).row; omega
theorem head_len {a : Int} {p : Pst} (ha : -1 ≤ a) (h : MayP p.row p.len p.n p.F) : (headL a p).length ≤ 30 := by
  obtain ⟨h1, h2, h3, h4, h5, h6⟩ := id h
  have := may_len h
  have n1 := num_len (gap_lt (n := p.row) (a := a) h2 ha)
  have n2 := num_len (gap_lt (n := p.len) (a := 0) (by omega) (by omega))
  have n3 := num_len (gap_lt (n := p.n) (a := 0) (by omega) (by omega))
  unfold headL
  rw [List.length_append, List.length_append]; omega
theorem one_len {a : Int} {p : Pst} (ha : -1 ≤ a) (h : MayP p.row p.len p.n p.F) : (oneL a p).length ≤ 10485800 := by
  have h1 := head_len ha h
  have h2 := ats_len h.2.2.2.1 p.n h.2.2.2.2.2
  have := may_len h
  unfold oneL
  rw [List.length_append]; omega
theorem all_len {P : Nat → Pst} : ∀ k, RightTo P k → (allL P k).length ≤ 10485800 * k := by
  intro k
  induction k with
  | zero => intro _; simp [allL]
  | succ k ih =>
    intro h
    have h0 : RightTo P k := fun i hi => h i (by omega)
    have h1 := ih h0
    have h2 := one_len (rows_ge h0) (h k (by omega)).2
    rw [allL, List.length_append]; omega
theorem numL_len1 {n : Nat} (h : n ≤ 64) : (numL n).length ≤ 10 := num_len (by omega)
/-- What a round of packed holds: the row of bytes, and the box that it reads. -/
def PInv (w : World) (Bx : Nat) (cs : Array Value) (W : World) (v : Value) (ys : List Nat) : Prop :=
  OwnU W w.heap.size v ys ∧ Below w.heap.size w W ∧ W.heap[Bx]? = some (.cells cs 48 (0, 0)) ∧ some Bx ≠ v.ownBlock ∧ w.heap.size ≤ W.heap.size
theorem PInv.next {w W W' : World} {Bx : Nat} {cs : Array Value} {v v' : Value} {ys zs : List Nat} (h : PInv w Bx cs W v ys) (ho : OwnU W' w.heap.size v' zs) (hg : W.grownBy W' v.ownBlock) (hn : NewOr W v v') : PInv w Bx cs W' v' zs := by
  obtain ⟨h1, h2, h3, h4, h5⟩ := h
  have hlt := (Array.getElem?_eq_some_iff.1 h3).1
  refine ⟨ho, h2.grown hg h5 (fun k hk => (h1.lt k hk).1), (hg.block Bx hlt h4).trans h3, ?_, Nat.le_trans h5 hg.size⟩
  rcases hn with hn | ⟨k, hn, hk⟩
  · rw [hn]; exact h4
  · rw [hn]; intro e; injection e with e; omega
theorem PInv.start {w wr : World} {v : Value} {ys : List Nat} (ho : OwnU wr w.heap.size v ys) (hb : Below w.heap.size w wr) (cs : Array Value) : PInv w wr.heap.size cs (wr.alloc (.cells cs 48)) v ys := by
  refine ⟨ho.alloc _, hb.alloc hb.size _, heap_alloc_new _ _, ?_, by have := hb.size; simp; omega⟩
  intro e
  have := (ho.lt _ e.symm).2
  omega
theorem PInv.c {w W : World} {Bx : Nat} {cs : Array Value} {v : Value} {ys : List Nat} (h : PInv w Bx cs W v ys) (j : Nat) : W.cell? ⟨Bx, j, none⟩ = cs[j]? := cell_of_row W Bx j cs _ _ h.2.2.1
theorem pstep {w : World} {Bx : Nat} {cs : Array Value} {W : World} {v : Value} {ys : List Nat} (h : PInv w Bx cs W v ys) (n ahead : Int) (h0 : ahead < n) (h1 : n ≤ 9007199254740992) (h2 : -1 ≤ ahead) (hlen : ys.length ≤ 70368744177664) :
    Calls Try.prog 29 #[v, .int .i64 n, .int .i64 ahead] W fun e W' => ∃ v', e = .returned v' ∧ PInv w Bx cs W' v' (ys ++ numL (gapN n ahead)) :=
  (putAbove_any w.heap.size v ys n ahead W (by omega) h1 h2 h.1 hlen h.2.2.2.2).mono fun e W' ⟨v', he, ho, hg, hn⟩ => ⟨v', he, h.next ho hg hn⟩
set_option maxHeartbeats 16000000 in
theorem packed_any (A : Option Addr) (n c : Nat) (P : Nat → Pst) (w : World) (hI : Psts w A n P) (hR : RightP n P) : Calls Try.prog 19 #[.slice A n c] w fun e w' => ∃ v, e = .returned v ∧ OwnU w' w.heap.size v (packL n P) ∧ Below w.heap.size w w' := by
  obtain ⟨h64, hT⟩ := hR
  have HI := Lib.hid hI
  have HT := Lib.hid hT
  have H0 := Lib.hid (put_any w.heap.size (.slice none 0 0) [] n w (by omega) (World.ownsRow_nil _ _ _ _) (by simp) (Nat.le_refl _))
  clear hI hT
  go_enter Try.func19, Try.ntmps19
  go_wp2_with (go_at_call 28; (with_reducible refine H0.out.mono ?_); rintro e w1 ⟨v1, rfl, hq⟩; have HQ := Lib.hid hq; clear hq)
  go_loopw [3, 4, 15] (fun v r i wr => ∃ k : Nat, k ≤ n ∧ r = .int .i64 (aheadF (rowsF P) k) ∧ i = .int .i64 k ∧ OwnU wr w.heap.size v (numL n ++ allL P k) ∧ Below w.heap.size w wr) (fun _ _ i _ => n - (intOf i).toNat)
  case atStart =>
    obtain ⟨o1, g1, n1⟩ := HQ.out
    exact ⟨0, by omega, rfl, rfl, by simpa [allL] using o1, (Below.refl _ _).grown g1 (Nat.le_refl _) (fun k hk => by cases hk)⟩
  case round =>
    obtain ⟨k, hk, rfl, rfl, ho, hb⟩ := hrel
    have hrg := rows_ge (fun i hi => HT.out i (by omega) : RightTo P k)
    have hal := all_len k (fun i hi => HT.out i (by omega) : RightTo P k)
    have hnl := numL_len1 h64
    by_cases hlt : k < n
    · obtain ⟨b, o, hA, hbl, hc⟩ := HI.out.at_ (by omega)
      subst hA
      have hk3 := hc k hlt
      have q0 := kcell hb hbl hk3.c0
      have q1 := kcell hb hbl hk3.c1
      have q2 := kcell hb hbl hk3.c2
      have HIk := Lib.hid (HI.out.2.1 k hlt).1
      have hmay := (HT.out k hlt).2
      have hah := (HT.out k hlt).1
      have HSn := Lib.hid (show aheadF (rowsF P) (k + 1) = (P k).row from aheadF_succ (rowsF P) k)
      have HAll : Hid (allL P (k + 1) = allL P k ++ oneL (aheadF (rowsF P) k) (P k)) := Lib.hid rfl
      clear hc hk3
      generalize aheadF (rowsF P) k = ah at *
      generalize allL P k = al at *
      generalize P k = p at *
      obtain ⟨pr, pl, pA, pn, pc, pF⟩ := p
      dsimp only at q0 q1 q2 HIk hmay hah HSn
      have hml := may_len hmay
      obtain ⟨m1, m2, m3, m4, m5, m6⟩ := id hmay
      have HG := Lib.hid m6
      have hhl := head_len (a := ah) (p := ⟨pr, pl, pA, pn, pc, pF⟩) hrg hmay
      have HPI := Lib.hid (PInv.start ho hb #[.int .i64 pr, .int .i64 pl, .slice pA pn pc])
      have HB := Lib.hid hb
      have hys : (numL n ++ al).length ≤ 1000000000 := by rw [List.length_append]; omega
      have HY := Lib.hid hys
      have HN1 := Lib.hid (num_len (gap_lt (n := pr) (a := ah) m2 hrg))
      have HN2 := Lib.hid (num_len (gap_lt (n := pl) (a := 0) (by omega) (by omega)))
      have HN3 := Lib.hid (num_len (gap_lt (n := (pn : Int)) (a := 0) (by omega) (by omega)))
      have HAL := Lib.hid (fun t (h : GoodTo pl pF t) => ats_len m4 t h)
      have HAll2 : Hid (numL n ++ allL P (k + 1) = numL n ++ al ++ headL ah ⟨pr, pl, pA, pn, pc, pF⟩ ++ atsL pF pn) := Lib.hid (by rw [HAll.out]; unfold oneL; simp only [List.append_assoc])
      have HHl := Lib.hid hhl
      clear ho hb hmay m6 hys hal hnl hhl HAll
      generalize numL n ++ al = ys at *
      go_wp2_with (first
        | (go_at_call 29; (with_reducible refine (pstep HPI.out pr ah hah m2 hrg (by have := HY.out; omega)).mono ?_); rintro e W1 ⟨v1, rfl, p1⟩; have P1 := Lib.hid p1; have d1 : W1.cell? ⟨wr.heap.size, 1, none⟩ = some (.int .i64 pl) := p1.c 1; have d2 : W1.cell? ⟨wr.heap.size, 2, none⟩ = some (.slice pA pn pc) := p1.c 2; clear p1)
        | (go_at_call 29; (with_reducible refine (pstep P1.out pl 0 (by omega) (by omega) (by omega) (by have := HY.out; have := HN1.out; simp only [List.length_append]; omega)).mono ?_); rintro e W2 ⟨v2, rfl, p2⟩; have P2 := Lib.hid p2; have d3 : W2.cell? ⟨wr.heap.size, 2, none⟩ = some (.slice pA pn pc) := p2.c 2; clear p2)
        | (go_at_call 29; (with_reducible refine (pstep P2.out (pn : Int) 0 (by omega) (by omega) (by omega) (by have := HY.out; have := HN1.out; have := HN2.out; simp only [List.length_append]; omega)).mono ?_); rintro e W3 ⟨v3, rfl, p3⟩; have P3 := Lib.hid p3; have d4 : W3.cell? ⟨wr.heap.size, 2, none⟩ = some (.slice pA pn pc) := p3.c 2; clear p3))
      have HE : Hid (ys ++ numL (gapN pr ah) ++ numL (gapN pl 0) ++ numL (gapN (pn : Int) 0) = ys ++ headL ah ⟨pr, pl, pA, pn, pc, pF⟩) := Lib.hid (by unfold headL; simp only [List.append_assoc])
      clear q0 q1 q2 d1 d2 d3 d4
      obtain ⟨wo, HW⟩ : ∃ wo : World, Hid (wo = wr) := ⟨_, Lib.hid rfl⟩
      have HK3 := Lib.hid (show PInv w wr.heap.size #[.int .i64 pr, .int .i64 pl, .slice pA pn pc] W3 v3 (ys ++ headL ah ⟨pr, pl, pA, pn, pc, pF⟩) by rw [← HE.out]; exact P3.out)
      clear P1 P2 P3
      obtain ⟨Bx, hBx⟩ : ∃ Bx, Bx = wr.heap.size := ⟨_, rfl⟩
      rw [← hBx] at HK3 ⊢
      clear hBx HPI
      go_loopw [3, 7, 36] (fun v a i wx => ∃ t : Nat, t ≤ pn ∧ a = .int .i64 (aheadF pF t) ∧ i = .int .i64 t ∧ PInv w Bx #[.int .i64 pr, .int .i64 pl, .slice pA pn pc] wx v (ys ++ headL ah ⟨pr, pl, pA, pn, pc, pF⟩ ++ atsL pF t)) (fun _ _ i _ => pn - (intOf i).toNat)
      case atStart => exact ⟨0, by omega, rfl, rfl, by simpa [atsL] using HK3.out⟩
      case round =>
        obtain ⟨t, ht, rfl, rfl, hp⟩ := hrel
        have hga := ahead_ge (fun i hi => HG.out i (by omega) : GoodTo pl pF t)
        have hat := HAL.out t (fun i hi => HG.out i (by omega))
        by_cases hlt2 : t < pn
        · obtain ⟨b2, o2, hA2, hbl2, hc2⟩ := HIk.out.at_ (by omega)
          subst hA2
          have hcx := kcell hp.2.1 hbl2 (hc2 t hlt2)
          have hsn := HG.out t hlt2
          have HSn2 := Lib.hid (aheadF_succ pF t)
          have HAt : Hid (atsL pF (t + 1) = atsL pF t ++ numL (gapN (pF t) (aheadF pF t))) := Lib.hid rfl
          have HPp := Lib.hid hp
          clear hp hc2
          obtain ⟨s1, s2⟩ := hsn
          have HLn := Lib.hid hat
          clear hat
          generalize aheadF pF t = ax at *
          generalize atsL pF t = ax2 at *
          generalize pF t = f at *
          go_wp2_with (go_at_call 29; (with_reducible refine (pstep HPp.out f ax s1 (by omega) hga (by have := HY.out; have := HHl.out; have := HLn.out; simp only [List.length_append]; omega)).mono ?_); rintro e W4 ⟨v4, rfl, p4⟩; have P4 := Lib.hid p4; clear p4)
          go_roundw
          case rel => exact ⟨t + 1, by omega, by rw [HSn2.out], by go_num, by rw [HAt.out, ← List.append_assoc]; exact P4.out⟩
          case measure => simp [intOf]; omega
        · obtain rfl : t = pn := by omega
          have d5 : wr.cell? ⟨Bx, 0, none⟩ = some (.int .i64 pr) := hp.c 0
          have HPp := Lib.hid hp
          clear hp hat
          go_wp2_with fail
          go_roundw
          case rel => exact ⟨k + 1, by omega, by rw [HSn.out], by go_num, by rw [HAll2.out]; exact HPp.out.1, HPp.out.2.1⟩
          case measure => simp [intOf]; omega
    · obtain rfl : n = k := by omega
      go_wp2_with fail
      go_ret
      exact ⟨_, rfl, ho, hb⟩
end Go.Proofs.Ythpfaaindkkpcaa
