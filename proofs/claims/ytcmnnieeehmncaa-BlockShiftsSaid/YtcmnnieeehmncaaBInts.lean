/- the document's Ints, of rows that are alike; the law BlockFollows walked. -/
import Derived.Test.YtcmnnieeehmncaaBRefFollow
import Derived.Deep.RegionHeld3
namespace Go.Proofs.Ytcmnnieeehmncaa
open Go.RowKit Go.Maps
set_option linter.unusedVariables false
set_option linter.unusedSimpArgs false

set_option maxHeartbeats 8000000 in
theorem ints_true (A : Option Addr) (n c : Nat) (F : Nat → Int) (B : Option Addr) (d : Nat) (w : World) (h1 : Ints w A n F) (h2 : Ints w B n F) :
    Calls Try.prog 21 #[.slice A n c, .slice B n d] w fun e w' => e = .returned (.bool true) ∧ Below w.heap.size w w' := by
  have hn := h1.1
  have H1 := Lib.hid h1
  have H2 := Lib.hid h2
  clear h1 h2
  go_enter Try.func21, Try.ntmps21
  go_wp2
  go_loopw [5] (fun i wr => ∃ k : Nat, k ≤ n ∧ i = .int .i64 k ∧ Below w.heap.size w wr) (fun i _ => n - (intOf i).toNat)
  case atStart => exact ⟨0, by omega, rfl, Below.refl _ _⟩
  case round =>
    obtain ⟨k, hk, rfl, hnx⟩ := hrel
    have HX := Lib.hid hnx
    clear hnx
    by_cases hlt : k < n
    · obtain ⟨b, o, hA, hbl, hc⟩ := H1.out.at_ (by omega)
      obtain ⟨b2, o2, hA2, hbl2, hc2⟩ := H2.out.at_ (by omega)
      have q1 := kcell HX.out hbl (hc k hlt)
      have q2 := kcell HX.out hbl2 (hc2 k hlt)
      subst hA hA2
      clear hc hc2
      generalize F k = f at *
      go_wp2_with fail
      go_quiet (fail)
      have HX5 : Hid (Below w.heap.size w (wr.drewN nq)) := Lib.hid (HX.out.trans (below_drewN _ _ _))
      generalize wr.drewN nq = W5 at *
      go_wp2_with fail
      go_roundw
      case rel => exact ⟨k + 1, by omega, by go_num, HX5.out⟩
      case measure => simp [intOf]; omega
    · go_wp2
      go_ret
      exact ⟨rfl, HX.out⟩
theorem ints_own {w : World} {base1 base2 : Nat} {v1 v2 : Value} {xs : List Int} (h1 : OwnI w base1 v1 xs) (h2 : OwnI w base2 v2 xs) (hx : ∀ x ∈ xs, In64 x) :
    Calls Try.prog 21 #[v1, v2] w fun e w' => e = .returned (.bool true) ∧ Below w.heap.size w w' := by
  obtain ⟨A, c, rfl, _⟩ := own_slice h1
  obtain ⟨B, d, rfl, _⟩ := own_slice h2
  exact ints_true A xs.length c _ B d w (own_ints h1 hx) (own_ints h2 hx)
theorem own_belowI {w w' : World} {base : Nat} {v : Value} {xs : List Int} (h : OwnI w base v xs) (hb : Below w.heap.size w w') : OwnI w' base v xs := by
  obtain ⟨hl, h0 | ⟨g, cap, cur, hv, hg, hh, r⟩⟩ := h
  · exact ⟨hl, .inl h0⟩
  · exact ⟨hl, .inr ⟨g, cap, cur, hv, hg, (hb.block g (Array.getElem?_eq_some_iff.1 hh).1).trans hh, r⟩⟩
theorem follow_in {row1 len1 : Int} {n : Nat} {F : Nat → Int} {row2 len2 : Int} {m : Nat} {G : Nat → Int} {d : Int} (hF : ∀ i, i < n → In64 (F i)) : ∀ x ∈ followL row1 len1 n F row2 len2 m G d, In64 x := by
  intro x hx
  unfold followL at hx
  split at hx
  · obtain ⟨i, hi, rfl⟩ := fol_mem F G m n d x hx
    exact hF i hi
  · cases hx
/-- What the region of BlockFollows holds: its two boxes. -/
abbrev BoxF (W0 : World) (g : Nat) (row1 len1 : Int) (A1 : Option Addr) (n1 c1 : Nat) (row2 len2 : Int) (A2 : Option Addr) (n2 c2 : Nat) (W : World) : Prop :=
  Below W0.heap.size W0 W ∧ (W.cell? ⟨g, 0, none⟩ = some (.int .i64 row1) ∧ W.cell? ⟨g, 1, none⟩ = some (.int .i64 len1) ∧ W.cell? ⟨g, 2, none⟩ = some (.slice A1 n1 c1)) ∧ W.cell? ⟨g + 1, 0, none⟩ = some (.int .i64 row2) ∧ W.cell? ⟨g + 1, 1, none⟩ = some (.int .i64 len2) ∧ W.cell? ⟨g + 1, 2, none⟩ = some (.slice A2 n2 c2)
section
variable {W0 W W' : World} {g : Nat} {row1 len1 : Int} {A1 : Option Addr} {n1 c1 : Nat} {row2 len2 : Int} {A2 : Option Addr} {n2 c2 : Nat}
theorem boxF_drew (h : BoxF W0 g row1 len1 A1 n1 c1 row2 len2 A2 n2 c2 W) : BoxF W0 g row1 len1 A1 n1 c1 row2 len2 A2 n2 c2 W.drew := ⟨h.1.drew, h.2⟩
theorem boxF_keep (h : BoxF W0 g row1 len1 A1 n1 c1 row2 len2 A2 n2 c2 W) (l : Below W.heap.size W W') : BoxF W0 g row1 len1 A1 n1 c1 row2 len2 A2 n2 c2 W' := by
  obtain ⟨h0, ⟨h1, h2, h3⟩, h4, h5, h6⟩ := h
  exact ⟨h0.trans (l.mono h0.size), ⟨bcell l h1 (cell_in h1), bcell l h2 (cell_in h2), bcell l h3 (cell_in h3)⟩, bcell l h4 (cell_in h4), bcell l h5 (cell_in h5), bcell l h6 (cell_in h6)⟩
end
section
variable {W0 W : World} {g : Nat} {row1 len1 : Int} {A1 : Option Addr} {n1 c1 : Nat} {F : Nat → Int} {row2 len2 : Int} {A2 : Option Addr} {n2 c2 : Nat} {G : Nat → Int} {d : Int}
theorem one1 (hS : Hid (BoxF W0 g row1 len1 A1 n1 c1 row2 len2 A2 n2 c2 W)) (hF : Hid (∀ W, Below W0.heap.size W0 W → Ints W A1 n1 F ∧ Ints W A2 n2 G)) (hnil : Hid (A1 = none → c1 = 0)) (hn : n1 ≤ 100) :
    Calls Try.prog 23 #[.agg #[.int .i64 row1, .int .i64 len1, .slice A1 n1 c1]] W fun e w' => ∃ A' c', e = .returned (.agg #[.int .i64 row1, .int .i64 len1, .slice A' n1 c']) ∧ BoxF W0 g row1 len1 A1 n1 c1 row2 len2 A2 n2 c2 w' ∧ Ints w' A' n1 F :=
  (one_any row1 len1 A1 n1 c1 F W (hF.out W hS.out.1).1 hnil.out (by omega)).mono fun e w' ⟨A', c', h1, h2, _, h4⟩ => ⟨A', c', h1, boxF_keep hS.out h4, h2⟩
theorem one2 (hS : Hid (BoxF W0 g row1 len1 A1 n1 c1 row2 len2 A2 n2 c2 W)) (hF : Hid (∀ W, Below W0.heap.size W0 W → Ints W A1 n1 F ∧ Ints W A2 n2 G)) (hnil : Hid (A2 = none → c2 = 0)) (hn : n2 ≤ 100) :
    Calls Try.prog 23 #[.agg #[.int .i64 row2, .int .i64 len2, .slice A2 n2 c2]] W fun e w' => ∃ A' c', e = .returned (.agg #[.int .i64 row2, .int .i64 len2, .slice A' n2 c']) ∧ BoxF W0 g row1 len1 A1 n1 c1 row2 len2 A2 n2 c2 w' ∧ Ints w' A' n2 G ∧ Below W.heap.size W w' :=
  (one_any row2 len2 A2 n2 c2 G W (hF.out W hS.out.1).2 hnil.out (by omega)).mono fun e w' ⟨A', c', h1, h2, _, h4⟩ => ⟨A', c', h1, boxF_keep hS.out h4, h2, h4⟩
theorem fol3 {B1 B2 : Option Addr} {b1 b2 : Nat} (hS : Hid (BoxF W0 g row1 len1 A1 n1 c1 row2 len2 A2 n2 c2 W)) (h1 : Hid (Ints W B1 n1 F)) (h2 : Hid (Ints W B2 n2 G)) :
    Calls Try.prog 22 #[.agg #[.int .i64 row1, .int .i64 len1, .slice B1 n1 b1], .agg #[.int .i64 row2, .int .i64 len2, .slice B2 n2 b2], .int .i64 d] W fun e w' => ∃ v, e = .returned v ∧ BoxF W0 g row1 len1 A1 n1 c1 row2 len2 A2 n2 c2 w' ∧ OwnI w' W.heap.size v (followL row1 len1 n1 F row2 len2 n2 G d) :=
  (follow_any row1 len1 B1 n1 b1 F row2 len2 B2 n2 b2 G d W h1.out h2.out).mono fun e w' ⟨v, e1, e2, e3⟩ => ⟨v, e1, boxF_keep hS.out e3, e2⟩
theorem ref4 {v : Value} {base : Nat} {xs : List Int} (hS : Hid (BoxF W0 g row1 len1 A1 n1 c1 row2 len2 A2 n2 c2 W)) (hF : Hid (∀ W, Below W0.heap.size W0 W → Ints W A1 n1 F ∧ Ints W A2 n2 G)) (ho : Hid (OwnI W base v xs)) :
    Calls Try.prog 24 #[.agg #[.int .i64 row1, .int .i64 len1, .slice A1 n1 c1], .agg #[.int .i64 row2, .int .i64 len2, .slice A2 n2 c2], .int .i64 d] W fun e w' => ∃ v2, e = .returned v2 ∧ BoxF W0 g row1 len1 A1 n1 c1 row2 len2 A2 n2 c2 w' ∧ OwnI w' W.heap.size v2 (followL row1 len1 n1 F row2 len2 n2 G d) ∧ OwnI w' base v xs :=
  (refFollow_any row1 len1 A1 n1 c1 F row2 len2 A2 n2 c2 G d W (hF.out W hS.out.1).1 (hF.out W hS.out.1).2).mono fun e w' ⟨v2, e1, e2, e3⟩ => ⟨v2, e1, boxF_keep hS.out e3, e2, own_belowI ho.out e3⟩
theorem ints5 {v1 v2 : Value} {b1 b2 : Nat} {xs : List Int} (hS : Hid (BoxF W0 g row1 len1 A1 n1 c1 row2 len2 A2 n2 c2 W)) (h1 : Hid (OwnI W b1 v1 xs)) (h2 : Hid (OwnI W b2 v2 xs)) (hx : Hid (∀ x ∈ xs, In64 x)) :
    Calls Try.prog 21 #[v1, v2] W fun e w' => e = .returned (.bool true) ∧ BoxF W0 g row1 len1 A1 n1 c1 row2 len2 A2 n2 c2 w' :=
  (ints_own h1.out h2.out hx.out).mono fun e w' ⟨e1, e3⟩ => ⟨e1, boxF_keep hS.out e3⟩
theorem aw6 (hS : Hid (BoxF W0 g row1 len1 A1 n1 c1 row2 len2 A2 n2 c2 W)) :
    Calls Try.prog 16 #[] W fun e w' => e = .returned (.bool true) ∧ BoxF W0 g row1 len1 A1 n1 c1 row2 len2 A2 n2 c2 w' :=
  (awake_any W).mono fun e w' ⟨e1, e3⟩ => ⟨e1, boxF_keep hS.out e3⟩
end
set_option maxHeartbeats 16000000 in
theorem blockFollows_walk (row1 len1 : Int) (A1 : Option Addr) (n1 c1 : Nat) (F : Nat → Int) (row2 len2 : Int) (A2 : Option Addr) (n2 c2 : Nat) (G : Nat → Int) (d : Int) (w : World) (h1 : Ints w A1 n1 F) (h2 : Ints w A2 n2 G) (hn1 : A1 = none → c1 = 0) (hn2 : A2 = none → c2 = 0) :
    Calls Try.prog 5 #[.agg #[.int .i64 row1, .int .i64 len1, .slice A1 n1 c1], .agg #[.int .i64 row2, .int .i64 len2, .slice A2 n2 c2], .int .i64 d] w fun e w' => e = .returned (.bool true) ∧ Below w.heap.size w w' := by
  have m1 := h1.1
  have m2 := h2.1
  have hB : Below w.heap.size w ((w.alloc (.cells #[.int .i64 row1, .int .i64 len1, .slice A1 n1 c1] 36)).alloc (.cells #[.int .i64 row2, .int .i64 len2, .slice A2 n2 c2] 36)) := ((Below.refl _ _).alloc (Nat.le_refl _) _).alloc (by simp) _
  have SB0 : BoxF ((w.alloc (.cells #[.int .i64 row1, .int .i64 len1, .slice A1 n1 c1] 36)).alloc (.cells #[.int .i64 row2, .int .i64 len2, .slice A2 n2 c2] 36)) w.heap.size row1 len1 A1 n1 c1 row2 len2 A2 n2 c2 ((w.alloc (.cells #[.int .i64 row1, .int .i64 len1, .slice A1 n1 c1] 36)).alloc (.cells #[.int .i64 row2, .int .i64 len2, .slice A2 n2 c2] 36)) := ⟨Below.refl _ _, ⟨by go_simp, by go_simp, by go_simp⟩, by go_simp, by go_simp, by go_simp⟩
  have HB := Lib.hid hB
  by_cases g1 : n1 ≤ 100
  · by_cases g2 : n2 ≤ 100
    · have HF1 : Hid (∀ W, Below ((w.alloc (.cells #[.int .i64 row1, .int .i64 len1, .slice A1 n1 c1] 36)).alloc (.cells #[.int .i64 row2, .int .i64 len2, .slice A2 n2 c2] 36)).heap.size ((w.alloc (.cells #[.int .i64 row1, .int .i64 len1, .slice A1 n1 c1] 36)).alloc (.cells #[.int .i64 row2, .int .i64 len2, .slice A2 n2 c2] 36)) W → Ints W A1 n1 F ∧ Ints W A2 n2 G) := Lib.hid fun W l => ⟨(h1.below hB (Nat.le_refl _)).below l (Nat.le_refl _), (h2.below hB (Nat.le_refl _)).below l (Nat.le_refl _)⟩
      have HIn : Hid (∀ x ∈ followL row1 len1 n1 F row2 len2 n2 G d, In64 x) := Lib.hid (follow_in fun i hi => h1.2.1 i hi)
      have HN1 := Lib.hid hn1
      have HN2 := Lib.hid hn2
      clear h1 h2 hB hn1 hn2
      go_enter Try.func5, Try.ntmps5
      go_wp2_with fail
      obtain ⟨W0, hW0⟩ : ∃ W0, ((w.alloc (.cells #[.int .i64 row1, .int .i64 len1, .slice A1 n1 c1] 36)).alloc (.cells #[.int .i64 row2, .int .i64 len2, .slice A2 n2 c2] 36)) = W0 := ⟨_, rfl⟩
      rw [hW0] at HF1 HB SB0 ⊢
      clear hW0
      have SB := Lib.hid SB0
      have HAw := Lib.hid awake_any
      clear SB0
      go_region_held3 (fun W => Below W0.heap.size W0 W ∧ (W.cell? ⟨w.heap.size, 0, none⟩ = some (.int .i64 row1) ∧ W.cell? ⟨w.heap.size, 1, none⟩ = some (.int .i64 len1) ∧ W.cell? ⟨w.heap.size, 2, none⟩ = some (.slice A1 n1 c1)) ∧ W.cell? ⟨w.heap.size + 1, 0, none⟩ = some (.int .i64 row2) ∧ W.cell? ⟨w.heap.size + 1, 1, none⟩ = some (.int .i64 len2) ∧ W.cell? ⟨w.heap.size + 1, 2, none⟩ = some (.slice A2 n2 c2)) (repeat (first | with_reducible assumption | with_reducible exact SB.out | with_reducible refine boxF_drew ?_)) (first
        | (go_at_call 23; (with_reducible refine (one1 (Lib.hid (by repeat (first | with_reducible assumption | with_reducible exact SB.out | with_reducible refine boxF_drew ?_))) HF1 HN1 g1).mono ?_); rintro e w1 ⟨B1, b1, rfl, hS1, i1⟩; have J1 := Lib.hid i1; clear i1)
        | (go_at_call 23; (with_reducible refine (one2 (Lib.hid hS1) HF1 HN2 g2).mono ?_); rintro e w2 ⟨B2, b2, rfl, hS2, i2, l2⟩; have J2 := Lib.hid i2; have J12 := Lib.hid (J1.out.below l2 (Nat.le_refl _)); clear i2 l2)
        | (go_at_call 22; (with_reducible refine (fol3 (Lib.hid hS2) J12 J2).mono ?_); rintro e w3 ⟨v3, rfl, hS3, o3⟩; have J3 := Lib.hid o3; clear o3)
        | (go_at_call 24; (with_reducible refine (ref4 (Lib.hid hS3) HF1 J3).mono ?_); rintro e w4 ⟨v4, rfl, hS4, o4, p4⟩; have J4 := Lib.hid o4; have J34 := Lib.hid p4; clear o4 p4)
        | (go_at_call 21; (with_reducible refine (ints5 (Lib.hid hS4) J34 J4 HIn).mono ?_); rintro e w5 ⟨rfl, hS5⟩)
        | (go_at_call 16; (with_reducible refine (aw6 (Lib.hid hS5)).mono ?_); rintro e w6 ⟨rfl, hS6⟩))
      have HE := Lib.hid hS6.1
      clear hS1 hS2 hS3 hS4 hS5 hS6
      go_wp2_with fail
      go_ret
      exact ⟨rfl, HB.out.trans (HE.out.mono HB.out.size)⟩
    · have k2 : decide ((100 : Int) < n2) = true := decide_eq_true (by omega)
      have k3 : ¬ ((n2 : Int) ≤ 100) := by omega
      clear h1 h2 hB SB0
      go_enter Try.func5, Try.ntmps5
      go_wp2_with fail
      go_ret
      exact ⟨rfl, HB.out⟩
  · have k2 : decide ((100 : Int) < n1) = true := decide_eq_true (by omega)
    have k3 : ¬ ((n1 : Int) ≤ 100) := by omega
    clear h1 h2 hB SB0
    go_enter Try.func5, Try.ntmps5
    go_wp2_with fail
    go_ret
    exact ⟨rfl, HB.out⟩
end Go.Proofs.Ytcmnnieeehmncaa
