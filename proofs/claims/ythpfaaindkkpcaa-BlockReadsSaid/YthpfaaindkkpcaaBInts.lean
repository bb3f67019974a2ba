/- the document's Ints, of rows that are alike; the law BlockFollows walked. -/
import Derived.Test.YthpfaaindkkpcaaBRefFollow
import Derived.Deep.RegionHeld3
namespace Go.Proofs.Ythpfaaindkkpcaa
open Go.RowKit Go.Maps
set_option linter.unusedVariables false
set_option linter.unusedSimpArgs false

set_option maxHeartbeats 8000000 in
theorem ints_true (A : Option Addr) (n c : Nat) (F : Nat → Int) (B : Option Addr) (d : Nat) (w : World) (h1 : Ints w A n F) (h2 : Ints w B n F) :
    Calls Try.prog 16 #[.slice A n c, .slice B n d] w fun e w' => e = .returned (.bool true) ∧ Below w.heap.size w w' := by
  have hn := h1.1
  have H1 := Lib.hid h1
  have H2 := Lib.hid h2
  clear h1 h2
  go_enter Try.func16, Try.ntmps16
  go_wp2
  go_loopw [5] (fun i wr => ∃ k : Nat, k ≤ n ∧ i = .int .i64 k ∧ Below w.heap.size w wr) (fun i _ => n - (intOf i).toNat)
  case atStart => exact ⟨0, by omega, rfl, Below.refl _ _⟩
  case round =>
    obtain ⟨k, hk, rfl, hnx⟩ := hrel
    have HX := Lib.hid hnx
    clear hnx
    by_cases hlt : k < n
    · obtain ⟨b, o, hA, hbl, hc⟩ := H1.out.at_ (by omega)
      obtain ⟨b2, o2, hA2, hbl2, hc2⟩ := H2.out.at_ (by omega)
      have q1 := kcell HX.out hbl (hc k hlt)
      have q2 := kcell HX.out hbl2 (hc2 k hlt)
      subst hA hA2
      clear hc hc2
      generalize F k = f at *
      go_wp2_with fail
      go_quiet (fail)
      have HX5 : Hid (Below w.heap.size w (wr.drewN nq)) := Lib.hid (HX.out.trans (below_drewN _ _ _))
      generalize wr.drewN nq = W5 at *
      go_wp2_with fail
      go_roundw
      case rel => exact ⟨k + 1, by omega, by go_num, HX5.out⟩
      case measure => simp [intOf]; omega
    · go_wp2
      go_ret
      exact ⟨rfl, HX.out⟩
theorem ints_own {w : World} {base1 base2 : Nat} {v1 v2 : Value} {xs : List Int} (h1 : OwnI w base1 v1 xs) (h2 : OwnI w base2 v2 xs) (hx : ∀ x ∈ xs, In64 x) :
    Calls Try.prog 16 #[v1, v2] w fun e w' => e = .returned (.bool true) ∧ Below w.heap.size w w' := by
  obtain ⟨A, c, rfl, _⟩ := own_slice h1
  obtain ⟨B, d, rfl, _⟩ := own_slice h2
  exact ints_true A xs.length c _ B d w (own_ints h1 hx) (own_ints h2 hx)
theorem own_belowI {w w' : World} {base : Nat} {v : Value} {xs : List Int} (h : OwnI w base v xs) (hb : Below w.heap.size w w') : OwnI w' base v xs := by
  obtain ⟨hl, h0 | ⟨g, cap, cur, hv, hg, hh, r⟩⟩ := h
  · exact ⟨hl, .inl h0⟩
  · exact ⟨hl, .inr ⟨g, cap, cur, hv, hg, (hb.block g (Array.getElem?_eq_some_iff.1 hh).1).trans hh, r⟩⟩
theorem follow_in {row1 len1 : Int} {n : Nat} {F : Nat → Int} {row2 len2 : Int} {m : Nat} {G : Nat → Int} {d : Int} (hF : ∀ i, i < n → In64 (F i)) : ∀ x ∈ followL row1 len1 n F row2 len2 m G d, In64 x := by
  intro x hx
  unfold followL at hx
  split at hx
  · obtain ⟨i, hi, rfl⟩ := fol_mem F G m n d x hx
    exact hF i hi
  · cases hx
/-- What the region of BlockFollows holds: its two boxes. -/
abbrev BoxF (W0 : World) (g : Nat) (row1 len1 : Int) (A1 : Option Addr) (n1 c1 : Nat) (row2 len2 : Int) (A2 : Option Addr) (n2 c2 : Nat) (W : World) : Prop :=
  Below W0.heap.size W0 W ∧ (W.cell? ⟨g, 0, none⟩ = some (.int .i64 row1) ∧ W.cell? ⟨g, 1, none⟩ = some (.int .i64 len1) ∧ W.cell? ⟨g, 2, none⟩ = some (.slice A1 n1 c1)) ∧ W.cell? ⟨g + 1, 0, none⟩ = some (.int .i64 row2) ∧ W.cell? ⟨g + 1, 1, none⟩ = some (.int .i64 len2) ∧ W.cell? ⟨g + 1, 2, none⟩ = some (.slice A2 n2 c2)
section
variable {W0 W W' : World} {g : Nat} {row1 len1 : Int} {A1 : Option Addr} {n1 c1 : Nat} {row2 len2 : Int} {A2 : Option Addr} {n2 c2 : Nat}
theorem boxF_drew (h : BoxF W0 g row1 len1 A1 n1 c1 row2 len2 A2 n2 c2 W) : BoxF W0 g row1 len1 A1 n1 c1 row2 len2 A2 n2 c2 W.drew := ⟨h.1.drew, h.2⟩
theorem boxF_keep (h : BoxF W0 g row1 len1 A1 n1 c1 row2 len2 A2 n2 c2 W) (l : Below W.heap.size W W') : BoxF W0 g row1 len1 A1 n1 c1 row2 len2 A2 n2 c2 W' := by
  obtain ⟨h0, ⟨h1, h2, h3⟩, h4, h5, h6⟩ := h
  exact ⟨h0.trans (l.mono h0.size), ⟨bcell l h1 (cell_in h1), bcell l h2 (cell_in h2), bcell l h3 (cell_in h3)⟩, bcell l h4 (cell_in h4), bcell l h5 (cell_in h5), bcell l h6 (cell_in h6)⟩
end
section
variable {W0 W : World} {g : Nat} {row1 len1 : Int} {A1 : Option Addr} {n1 c1 : Nat} {F : Nat → Int} {row2 len2 : Int} {A2 : Option Addr} {n2 c2 : Nat} {G : Nat → Int} {d : Int}
theorem one1 (hS : Hid (BoxF W0 g row1 len1 A1 n1 c1 row2 len2 A2 n2 c2 W)) (hF : Hid (∀ W, Below W0.heap.size W0 W → Ints W A1 n1 F ∧ Ints W A2 n2 G)) (hnil : Hid (A1 = none → c1 = 0)) (hn : n1 ≤ 100) :
    Calls Try.prog 20 #[.agg #[.int .i64 row1, .int .i64 len1, .slice A1 n1 c1]] W fun e w' => ∃ A' c', e = .returned (.agg #[.int .i64 row1, .int .i64 len1, .slice A' n1 c']) ∧ BoxF W0 g row1 len1 A1 n1 c1 row2 len2 A2 n2 c2 w' ∧ Ints w' A' n1 F :=
  (one_any row1 len1 A1 n1 c1 F W (hF.out W hS.out.1).1 hnil.out (by omega)).mono fun e w' ⟨A', c', h1, h2, _, h4⟩ => ⟨A', c', h1, boxF_keep hS.out h4, h2⟩
theorem one2 (hS : Hid (BoxF W0 g row1 len1 A1 n1 c1 row2 len2 A2 n2 c2 W)) (hF : Hid (∀ W, Below W0.heap.size W0 W → Ints W A1 n1 F ∧ Ints W A2 n2 G)) (hnil : Hid (A2 = none → c2 = 0)) (hn : n2 ≤ 100) :
    Calls Try.prog 20 #[.agg #[.int .i64 row2, .int .i64 len2, .slice A2 n2 c2]] W fun e w' => ∃ A' c', e = .returned (.agg #[.int .i64 row2, .int .i64 len2, .slice A' n2 c']) ∧ BoxF W0 g row1 len1 A1 n1 c1 row2 len2 A2 n2 c2 w' ∧ Ints w' A' n2 G ∧ Below W.heap.size W w' :=
  (one_any row2 len2 A2 n2 c2 G W (hF.out W hS.out.1).2 hnil.out (by omega)).mono fun e w' ⟨A', c', h1, h2, _, h4⟩ => ⟨A', c', h1, boxF_keep hS.out h4, h2, h4⟩
theorem fol3 {B1 B2 : Option Addr} {b1 b2 : Nat} (hS : Hid (BoxF W0 g row1 len1 A1 n1 c1 row2 len2 A2 n2 c2 W)) (h1 : Hid (Ints W B1 n1 F)) (h2 : Hid (Ints W B2 n2 G)) :
    Calls Try.prog 17 #[.agg #[.int .i64 row1, .int .i64 len1, .slice B1 n1 b1], .agg #[.int .i64 row2, .int .i64 len2, .slice B2 n2 b2], .int .i64 d] W fun e w' => ∃ v, e = .returned v ∧ BoxF W0 g row1 len1 A1 n1 c1 row2 len2 A2 n2 c2 w' ∧ OwnI w' W.heap.size v (followL row1 len1 n1 F row2 len2 n2 G d) :=
  (follow_any row1 len1 B1 n1 b1 F row2 len2 B2 n2 b2 G d W h1.out h2.out).mono fun e w' ⟨v, e1, e2, e3⟩ => ⟨v, e1, boxF_keep hS.out e3, e2⟩
theorem ints5 {v1 v2 : Value} {b1 b2 : Nat} {xs : List Int} (hS : Hid (BoxF W0 g row1 len1 A1 n1 c1 row2 len2 A2 n2 c2 W)) (h1 : Hid (OwnI W b1 v1 xs)) (h2 : Hid (OwnI W b2 v2 xs)) (hx : Hid (∀ x ∈ xs, In64 x)) :
    Calls Try.prog 16 #[v1, v2] W fun e w' => e = .returned (.bool true) ∧ BoxF W0 g row1 len1 A1 n1 c1 row2 len2 A2 n2 c2 w' :=
  (ints_own h1.out h2.out hx.out).mono fun e w' ⟨e1, e3⟩ => ⟨e1, boxF_keep hS.out e3⟩
theorem aw6 (hS : Hid (BoxF W0 g row1 len1 A1 n1 c1 row2 len2 A2 n2 c2 W)) :
    Calls Try.prog 9 #[] W fun e w' => e = .returned (.bool true) ∧ BoxF W0 g row1 len1 A1 n1 c1 row2 len2 A2 n2 c2 w' :=
  (awake_any W).mono fun e w' ⟨e1, e3⟩ => ⟨e1, boxF_keep hS.out e3⟩
end
end Go.Proofs.Ythpfaaindkkpcaa
