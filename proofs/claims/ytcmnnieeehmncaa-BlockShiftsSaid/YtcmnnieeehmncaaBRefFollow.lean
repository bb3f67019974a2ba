/- the document's Follow: every two postings. -/
import Derived.Test.YtcmnnieeehmncaaBRefOne
namespace Go.Proofs.Ytcmnnieeehmncaa
open Go.RowKit Go.Maps
set_option linter.unusedVariables false
set_option linter.unusedSimpArgs false

theorem refOne_is {row len : Int} {A : Option Addr} {n c : Nat} {F : Nat → Int} {v : Bool} (h : mayB row len n F = v) (w : World) (hI : Ints w A n F) : Calls Try.prog 25 #[.agg #[.int .i64 row, .int .i64 len, .slice A n c]] w fun e w' => e = .returned (.bool v) ∧ Below w.heap.size w w' := by
  rw [← h]; exact refOne_any row len A n c F w hI
theorem among_succ (G : Nat → Int) (k : Nat) (x : Int) : amongB G (k + 1) x = (amongB G k x || decide (G k = x)) := by
  unfold amongB
  rw [Bool.eq_iff_iff, Bool.or_eq_true, decide_eq_true_eq, decide_eq_true_eq, decide_eq_true_eq]
  constructor
  · rintro ⟨j, hj, h⟩
    by_cases e : j = k
    · subst e; exact .inr h
    · exact .inl ⟨j, by omega, h⟩
  · rintro (⟨j, hj, h⟩ | h)
    · exact ⟨j, by omega, h⟩
    · exact ⟨k, by omega, h⟩
theorem among_once {len : Int} {G : Nat → Int} {m k : Nat} {x : Int} (hg : GoodTo len G m) (hk : k < m) (h : G k = x) : amongB G k x = false := by
  refine decide_eq_false ?_
  rintro ⟨j, hj, e⟩
  have := good_mono hg j k hj hk
  omega
/-- What one place of the first gives behind k of the second's. -/
def hitL (G : Nat → Int) (k : Nat) (x f : Int) : List Int := if amongB G k x = true then [f] else []
theorem hit_zero (G : Nat → Int) (x f : Int) : hitL G 0 x f = [] := by
  unfold hitL amongB
  rw [if_neg]
  simp
theorem hit_yes {len : Int} {G : Nat → Int} {m k : Nat} {x f : Int} (hg : GoodTo len G m) (hk : k < m) (h : G k = x) : hitL G k x f = [] ∧ hitL G (k + 1) x f = [f] := by
  unfold hitL
  have h1 := among_once hg hk h
  rw [among_succ, h1, h]
  simp
theorem hit_no {G : Nat → Int} {k : Nat} {x f : Int} (h : G k ≠ x) : hitL G (k + 1) x f = hitL G k x f := by
  unfold hitL
  rw [among_succ, decide_eq_false h, Bool.or_false]
theorem fol_hit (F G : Nat → Int) (m k : Nat) (d : Int) : folL F G m d (k + 1) = folL F G m d k ++ hitL G m (F k + d) (F k) := by
  rw [folL]; unfold hitL
  split <;> simp
theorem hit_len (G : Nat → Int) (k : Nat) (x f : Int) : (hitL G k x f).length ≤ 1 := by unfold hitL; split <;> simp
set_option maxHeartbeats 8000000 in
theorem refFollow_no (row1 len1 : Int) (A1 : Option Addr) (n1 c1 : Nat) (F : Nat → Int) (row2 len2 : Int) (A2 : Option Addr) (n2 c2 : Nat) (G : Nat → Int) (d : Int) (w : World) (h1 : Ints w A1 n1 F) (h2 : Ints w A2 n2 G) (hno : ¬ FolP row1 len1 n1 F row2 len2 n2 G d) :
    Calls Try.prog 24 #[.agg #[.int .i64 row1, .int .i64 len1, .slice A1 n1 c1], .agg #[.int .i64 row2, .int .i64 len2, .slice A2 n2 c2], .int .i64 d] w fun e w' => e = .returned (.slice none 0 0) ∧ Below w.heap.size w w' := by
  have hB : Below w.heap.size w ((w.alloc (.cells #[.int .i64 row1, .int .i64 len1, .slice A1 n1 c1] 36)).alloc (.cells #[.int .i64 row2, .int .i64 len2, .slice A2 n2 c2] 36)) := ((Below.refl _ _).alloc (Nat.le_refl _) _).alloc (by simp) _
  have HB := Lib.hid hB
  have I1 := h1.below hB (Nat.le_refl _)
  have I2 := h2.below hB (Nat.le_refl _)
  cases hm1 : mayB row1 len1 n1 F with
  | false =>
    have HM := Lib.hid (refOne_is (c := c1) hm1 _ I1)
    clear hm1 I1 I2 h1 h2 hno hB
    go_enter Try.func24, Try.ntmps24
    go_wp2_with (go_at_call 25; (with_reducible refine HM.out.mono ?_); rintro e w1 ⟨rfl, l1⟩; have L1 := Lib.hid l1; clear l1)
    go_ret
    exact ⟨rfl, HB.out.trans (L1.out.mono (by simp; omega))⟩
  | true =>
    have HM2 : Hid (∀ (v : Bool), mayB row2 len2 n2 G = v → ∀ w1, Below ((w.alloc (.cells #[.int .i64 row1, .int .i64 len1, .slice A1 n1 c1] 36)).alloc (.cells #[.int .i64 row2, .int .i64 len2, .slice A2 n2 c2] 36)).heap.size ((w.alloc (.cells #[.int .i64 row1, .int .i64 len1, .slice A1 n1 c1] 36)).alloc (.cells #[.int .i64 row2, .int .i64 len2, .slice A2 n2 c2] 36)) w1 → Calls Try.prog 25 #[.agg #[.int .i64 row2, .int .i64 len2, .slice A2 n2 c2]] w1 fun e w' => e = .returned (.bool v) ∧ Below w1.heap.size w1 w') := Lib.hid fun v hv w1 l => refOne_is (c := c2) hv w1 (I2.below l (Nat.le_refl _))
    have HM := Lib.hid (refOne_is (c := c1) hm1 _ I1)
    cases hm2 : mayB row2 len2 n2 G with
    | false =>
      have HM3 := Lib.hid (HM2.out _ hm2)
      clear hm1 hm2 I1 I2 h1 h2 hno hB HM2
      go_enter Try.func24, Try.ntmps24
      go_wp2_with (first
        | (go_at_call 25; (with_reducible refine HM.out.mono ?_); rintro e w1 ⟨rfl, l1⟩; have q0 := bcell l1 (b := w.heap.size + 1) (o := 0) (v := .int .i64 row2) (by go_simp) (by simp); have q1 := bcell l1 (b := w.heap.size + 1) (o := 1) (v := .int .i64 len2) (by go_simp) (by simp); have q2 := bcell l1 (b := w.heap.size + 1) (o := 2) (v := .slice A2 n2 c2) (by go_simp) (by simp); have L1 := Lib.hid l1; clear l1)
        | (go_at_call 25; (with_reducible refine (HM3.out _ L1.out).mono ?_); rintro e w2 ⟨rfl, l2⟩; have L2 := Lib.hid l2; clear l2))
      go_ret
      exact ⟨rfl, (HB.out.trans (L1.out.mono (by simp; omega))).trans (L2.out.mono (by have := L1.out.size; simp at this; omega))⟩
    | true =>
      have HM3 := Lib.hid (HM2.out _ hm2)
      have HW : Hid (row1 ≠ row2 ∨ (row1 = row2 ∧ d < 1) ∨ (row1 = row2 ∧ 1 ≤ d ∧ 1048576 < d)) := Lib.hid (by
        by_cases e1 : row1 = row2
        · by_cases e2 : 1 ≤ d
          · by_cases e3 : d ≤ 1048576
            · exact absurd ⟨e2, e3, e1, of_decide_eq_true hm1, of_decide_eq_true hm2⟩ hno
            · exact .inr (.inr ⟨e1, e2, by omega⟩)
          · exact .inr (.inl ⟨e1, by omega⟩)
        · exact .inl e1)
      clear hm1 hm2 I1 I2 h1 h2 hno hB HM2
      rcases HW.out with hr | ⟨rfl, hd⟩ | ⟨rfl, hd1, hd2⟩
      · have k1 : (row1 != row2) = true := by simpa using hr
        have k2 : (row1 == row2) = false := by simpa using hr
        go_enter Try.func24, Try.ntmps24
        go_wp2_with (first
          | (go_at_call 25; (with_reducible refine HM.out.mono ?_); rintro e w1 ⟨rfl, l1⟩; have p0 := bcell l1 (b := w.heap.size) (o := 0) (v := .int .i64 row1) (by go_simp) (by simp; omega); have q0 := bcell l1 (b := w.heap.size + 1) (o := 0) (v := .int .i64 row2) (by go_simp) (by simp); have q1 := bcell l1 (b := w.heap.size + 1) (o := 1) (v := .int .i64 len2) (by go_simp) (by simp); have q2 := bcell l1 (b := w.heap.size + 1) (o := 2) (v := .slice A2 n2 c2) (by go_simp) (by simp); have L1 := Lib.hid l1; clear l1)
          | (go_at_call 25; (with_reducible refine (HM3.out _ L1.out).mono ?_); rintro e w2 ⟨rfl, l2⟩; have p3 := bcell l2 p0 (cell_in p0); have p4 := bcell l2 q0 (cell_in q0); have L2 := Lib.hid l2; clear l2))
        go_ret
        exact ⟨rfl, (HB.out.trans (L1.out.mono (by simp; omega))).trans (L2.out.mono (by have := L1.out.size; simp at this; omega))⟩
      · have k1 : decide (d < 1) = true := decide_eq_true hd
        go_enter Try.func24, Try.ntmps24
        go_wp2_with (first
          | (go_at_call 25; (with_reducible refine HM.out.mono ?_); rintro e w1 ⟨rfl, l1⟩; have p0 := bcell l1 (b := w.heap.size) (o := 0) (v := .int .i64 row1) (by go_simp) (by simp; omega); have q0 := bcell l1 (b := w.heap.size + 1) (o := 0) (v := .int .i64 row1) (by go_simp) (by simp); have q1 := bcell l1 (b := w.heap.size + 1) (o := 1) (v := .int .i64 len2) (by go_simp) (by simp); have q2 := bcell l1 (b := w.heap.size + 1) (o := 2) (v := .slice A2 n2 c2) (by go_simp) (by simp); have L1 := Lib.hid l1; clear l1)
          | (go_at_call 25; (with_reducible refine (HM3.out _ L1.out).mono ?_); rintro e w2 ⟨rfl, l2⟩; have p3 := bcell l2 p0 (cell_in p0); have p4 := bcell l2 q0 (cell_in q0); have L2 := Lib.hid l2; clear l2))
        go_ret
        exact ⟨rfl, (HB.out.trans (L1.out.mono (by simp; omega))).trans (L2.out.mono (by have := L1.out.size; simp at this; omega))⟩
      · have k1 : decide (1048576 < d) = true := decide_eq_true hd2
        go_enter Try.func24, Try.ntmps24
        go_wp2_with (first
          | (go_at_call 25; (with_reducible refine HM.out.mono ?_); rintro e w1 ⟨rfl, l1⟩; have p0 := bcell l1 (b := w.heap.size) (o := 0) (v := .int .i64 row1) (by go_simp) (by simp; omega); have q0 := bcell l1 (b := w.heap.size + 1) (o := 0) (v := .int .i64 row1) (by go_simp) (by simp); have q1 := bcell l1 (b := w.heap.size + 1) (o := 1) (v := .int .i64 len2) (by go_simp) (by simp); have q2 := bcell l1 (b := w.heap.size + 1) (o := 2) (v := .slice A2 n2 c2) (by go_simp) (by simp); have L1 := Lib.hid l1; clear l1)
          | (go_at_call 25; (with_reducible refine (HM3.out _ L1.out).mono ?_); rintro e w2 ⟨rfl, l2⟩; have p3 := bcell l2 p0 (cell_in p0); have p4 := bcell l2 q0 (cell_in q0); have L2 := Lib.hid l2; clear l2))
        go_ret
        exact ⟨rfl, (HB.out.trans (L1.out.mono (by simp; omega))).trans (L2.out.mono (by have := L1.out.size; simp at this; omega))⟩
set_option maxRecDepth 100000 in
set_option maxHeartbeats 16000000 in
theorem refFollow_yes (row1 len1 : Int) (A1 : Option Addr) (n1 c1 : Nat) (F : Nat → Int) (row2 len2 : Int) (A2 : Option Addr) (n2 c2 : Nat) (G : Nat → Int) (d : Int) (w : World) (h1 : Ints w A1 n1 F) (h2 : Ints w A2 n2 G) (hy : FolP row1 len1 n1 F row2 len2 n2 G d) :
    Calls Try.prog 24 #[.agg #[.int .i64 row1, .int .i64 len1, .slice A1 n1 c1], .agg #[.int .i64 row2, .int .i64 len2, .slice A2 n2 c2], .int .i64 d] w fun e w' => ∃ v, e = .returned v ∧ OwnI w' w.heap.size v (folL F G n2 d n1) ∧ Below w.heap.size w w' := by
  obtain ⟨d1, d2, hr, m1, m2⟩ := hy
  subst hr
  obtain ⟨i0, hi, hz0, hz1, hz2⟩ := info_parts intInfo
  have hB : Below w.heap.size w ((w.alloc (.cells #[.int .i64 row1, .int .i64 len1, .slice A1 n1 c1] 36)).alloc (.cells #[.int .i64 row1, .int .i64 len2, .slice A2 n2 c2] 36)) := ((Below.refl _ _).alloc (Nat.le_refl _) _).alloc (by simp) _
  have HB := Lib.hid hB
  have I1 := h1.below hB (Nat.le_refl _)
  have I2 := h2.below hB (Nat.le_refl _)
  have HM := Lib.hid (refOne_is (c := c1) (decide_eq_true m1) _ I1)
  have HM2 : Hid (∀ w1, Below ((w.alloc (.cells #[.int .i64 row1, .int .i64 len1, .slice A1 n1 c1] 36)).alloc (.cells #[.int .i64 row1, .int .i64 len2, .slice A2 n2 c2] 36)).heap.size ((w.alloc (.cells #[.int .i64 row1, .int .i64 len1, .slice A1 n1 c1] 36)).alloc (.cells #[.int .i64 row1, .int .i64 len2, .slice A2 n2 c2] 36)) w1 → Calls Try.prog 25 #[.agg #[.int .i64 row1, .int .i64 len2, .slice A2 n2 c2]] w1 fun e w' => e = .returned (.bool true) ∧ Below w1.heap.size w1 w') := Lib.hid fun w1 l => refOne_is (c := c2) (decide_eq_true m2) w1 (I2.below l (Nat.le_refl _))
  have nn1 := may_len m1
  have nn2 := may_len m2
  have HG1 := Lib.hid m1
  have HG2 := Lib.hid m2
  have H1 := Lib.hid h1
  have H2 := Lib.hid h2
  clear I1 I2 h1 h2 hB m1 m2
  go_enter Try.func24, Try.ntmps24
  go_wp2_with (first
    | (go_at_call 25; (with_reducible refine HM.out.mono ?_); rintro e w1 ⟨rfl, l1⟩; have p0 := bcell l1 (b := w.heap.size) (o := 0) (v := .int .i64 row1) (by go_simp) (by simp; omega); have q0 := bcell l1 (b := w.heap.size + 1) (o := 0) (v := .int .i64 row1) (by go_simp) (by simp); have q1 := bcell l1 (b := w.heap.size + 1) (o := 1) (v := .int .i64 len2) (by go_simp) (by simp); have q2 := bcell l1 (b := w.heap.size + 1) (o := 2) (v := .slice A2 n2 c2) (by go_simp) (by simp); have q3 := bcell l1 (b := w.heap.size) (o := 2) (v := .slice A1 n1 c1) (by go_simp) (by simp; omega); have hs1 := l1.size; simp only [World.size_alloc] at hs1; have L1 := Lib.hid l1; clear l1)
    | (go_at_call 25; (with_reducible refine (HM2.out _ L1.out).mono ?_); rintro e w2 ⟨rfl, l2⟩; have p3 := bcell l2 p0 (cell_in p0); have p4 := bcell l2 q0 (cell_in q0); have p5 := bcell l2 q2 (cell_in q2); have p6 := bcell l2 q3 (cell_in q3); have hs2 := l2.size; have hs3 : w.heap.size + 1 < w2.heap.size := (by omega); have hs4 : w.heap.size < w2.heap.size := (by omega); have L2 := Lib.hid (HB.out.trans ((L1.out.mono (by simp; omega)).trans (l2.mono (by have := L1.out.size; simp at this; omega)))); clear l2))
  have K1 := Lib.hid (H1.out.below L2.out (Nat.le_refl _))
  have K2 := Lib.hid (H2.out.below L2.out (Nat.le_refl _))
  clear q0 q1 q2 q3 p0 p3 p4 hs1 hs2 HM HM2 L1 HB H1 H2
  go_loopw [7, 8] (fun v i wr => ∃ q : Nat, q ≤ n1 ∧ i = .int .i64 q ∧ OwnI wr w2.heap.size v (folL F G n2 d q) ∧ Below w2.heap.size w2 wr) (fun _ i _ => n1 - (intOf i).toNat)
  case atStart => exact ⟨0, by omega, rfl, World.ownsRow_nil _ _ _ _, Below.refl _ _⟩
  case round =>
    obtain ⟨q, hq, rfl, hrow, hnx⟩ := hrel
    have e6 := kcell hnx hs4 p6
    have e5 := kcell hnx hs3 p5
    by_cases hlt : q < n1
    · obtain ⟨b, o, hA, hbl, hc⟩ := K1.out.at_ (by omega)
      have hcF := hc q hlt
      have hlen := fol_len F G n2 q d
      have HFh := Lib.hid (fol_hit F G n2 q d)
      have hgd := HG1.out.2.2.2.2.2 q hlt
      have hge := good_ge HG1.out.2.2.2.2.2 q hlt
      have hl1 := HG1.out.2.2.2.1
      have f0 : 0 ≤ F q := by omega
      have f1 : F q ≤ 1048576 := by omega
      have HR := Lib.hid hrow
      have HX := Lib.hid hnx
      subst hA
      clear hc hgd hge hl1 hrow hnx
      generalize F q = f at *
      go_wp2_with fail
      obtain ⟨wo, HW⟩ : ∃ wo : World, Hid (wo = wr) := ⟨_, Lib.hid rfl⟩
      rw [← HW.out] at HX HR e5 e6 ⊢
      clear HW
      go_loopw [7, 9] (fun v i wr => ∃ k : Nat, k ≤ n2 ∧ i = .int .i64 k ∧ OwnI wr w2.heap.size v (folL F G n2 d q ++ hitL G k (f + d) f) ∧ Below w2.heap.size w2 wr) (fun _ i _ => n2 - (intOf i).toNat)
      case atStart => exact ⟨0, by omega, rfl, by rw [hit_zero, List.append_nil]; exact HR.out, HX.out⟩
      case round =>
        obtain ⟨k, hk, rfl, hrow, hnx⟩ := hrel
        have g6 := kcell hnx hs4 p6
        have g5 := kcell hnx hs3 p5
        have hcf := kcell hnx hbl hcF
        by_cases hlk : k < n2
        · obtain ⟨b2, o2, hA2, hbl2, hc2⟩ := K2.out.at_ (by omega)
          have hcG := kcell hnx hbl2 (hc2 k hlk)
          have hhl := hit_len G k (f + d) f
          have HX2 := Lib.hid hnx
          have HR2 := Lib.hid hrow
          have HYes := Lib.hid (fun h => hit_yes (x := f + d) (f := f) HG2.out.2.2.2.2.2 hlk h)
          have HNo := Lib.hid (fun h => hit_no (G := G) (k := k) (x := f + d) (f := f) h)
          subst hA2
          clear hc2 hnx hrow
          generalize G k = g at *
          by_cases hxx : g = f + d
          · obtain ⟨y1, y2⟩ := HYes.out hxx
            have HR3 := Lib.hid (show OwnI wr w2.heap.size u7 (folL F G n2 d q) by have h := HR2.out; rw [y1, List.append_nil] at h; exact h)
            have HY2 := Lib.hid y2
            have kx : (g == f + d) = true := by simpa using hxx
            clear y1 y2 HYes HNo hhl HR2
            go_wp2_with fail
            go_quiet (fail)
            have HX5 : Hid (Below w2.heap.size w2 (wr.drewN nq)) := Lib.hid (HX2.out.trans (below_drewN _ _ _))
            have HR5 : Hid (OwnI (wr.drewN nq) w2.heap.size u7 (folL F G n2 d q)) := Lib.hid HR3.out
            generalize wr.drewN nq = W5 at *
            have j6 := kcell HX5.out hs4 p6
            have jf := kcell HX5.out hbl hcF
            have hs5 := HX5.out.size
            go_wp2_with (at_builtin; refine wpList_append_own _ rfl _ _ 34 rfl w2.heap.size 3 i0 (.int .i64 0) 1 8 Try.underlying34 hi hz0 hz1 hz2 rfl (by decide) _ _ _ rfl (HR5.out.alloc _) ⟨W5.heap.size, 0, none⟩ 1 1 [.int .i64 f] rfl rfl (cell_one_new _ _ _) (ints_oneCell .i64 [f]) (by unfold maxLen; omega) (by omega) (by simp; omega) ?_; intro v' w4 hown' hgrow2 hnil2)
            have s1 := hgrow2.size
            simp only [World.size_alloc] at s1
            go_roundw
            case rel => exact ⟨k + 1, by omega, by go_num, by rw [HY2.out]; exact own_snoc hown', (HX5.out.alloc hs5 _).grown hgrow2 (by simp; omega) (fun j hj => (HR5.out.lt j hj).1)⟩
            case measure => simp [intOf]; omega
          · have kx : (g == f + d) = false := by simpa using hxx
            have HN2 := Lib.hid (HNo.out hxx)
            clear HYes HNo hxx
            go_wp2_with fail
            go_quiet (fail)
            have HX5 : Hid (Below w2.heap.size w2 (wr.drewN nq)) := Lib.hid (HX2.out.trans (below_drewN _ _ _))
            have HR5 : Hid (OwnI (wr.drewN nq) w2.heap.size u7 (folL F G n2 d q ++ hitL G k (f + d) f)) := Lib.hid HR2.out
            generalize wr.drewN nq = W5 at *
            go_wp2_with fail
            go_roundw
            case rel => exact ⟨k + 1, by omega, by go_num, by rw [HN2.out]; exact HR5.out, HX5.out⟩
            case measure => simp [intOf]; omega
        · obtain rfl : k = n2 := by omega
          have HX2 := Lib.hid hnx
          have HR2 := Lib.hid hrow
          clear hnx hrow
          go_wp2_with fail
          go_roundw
          case rel => exact ⟨q + 1, by omega, by go_num, by rw [HFh.out]; exact HR2.out, HX2.out⟩
          case measure => simp [intOf]; omega
    · obtain rfl : n1 = q := by omega
      go_wp2_with fail
      go_ret
      exact ⟨_, rfl, own_base hrow (by omega), L2.out.trans (hnx.mono (Nat.le_of_lt hs4))⟩
theorem refFollow_any (row1 len1 : Int) (A1 : Option Addr) (n1 c1 : Nat) (F : Nat → Int) (row2 len2 : Int) (A2 : Option Addr) (n2 c2 : Nat) (G : Nat → Int) (d : Int) (w : World) (h1 : Ints w A1 n1 F) (h2 : Ints w A2 n2 G) :
    Calls Try.prog 24 #[.agg #[.int .i64 row1, .int .i64 len1, .slice A1 n1 c1], .agg #[.int .i64 row2, .int .i64 len2, .slice A2 n2 c2], .int .i64 d] w fun e w' => ∃ v, e = .returned v ∧ OwnI w' w.heap.size v (followL row1 len1 n1 F row2 len2 n2 G d) ∧ Below w.heap.size w w' := by
  unfold followL
  by_cases h : FolP row1 len1 n1 F row2 len2 n2 G d
  · rw [if_pos h]
    exact refFollow_yes row1 len1 A1 n1 c1 F row2 len2 A2 n2 c2 G d w h1 h2 h
  · rw [if_neg h]
    exact (refFollow_no row1 len1 A1 n1 c1 F row2 len2 A2 n2 c2 G d w h1 h2 h).mono fun e w' ⟨h1, h2⟩ => ⟨_, h1, World.ownsRow_nil _ _ _ _, h2⟩
end Go.Proofs.Ytcmnnieeehmncaa
