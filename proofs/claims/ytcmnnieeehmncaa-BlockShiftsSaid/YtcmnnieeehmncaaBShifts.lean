/- the law BlockShifts walked. -/
import Derived.Test.YtcmnnieeehmncaaBInts
namespace Go.Proofs.Ytcmnnieeehmncaa
open Go.RowKit Go.Maps
set_option linter.unusedVariables false
set_option linter.unusedSimpArgs false

theorem fol_prefix (F G : Nat → Int) (m : Nat) (d : Int) (i : Nat) : ∀ n, i ≤ n → ∃ t, folL F G m d n = folL F G m d i ++ t := by
  intro n
  induction n with
  | zero => intro h; obtain rfl : i = 0 := by omega
            exact ⟨[], by simp⟩
  | succ n ih =>
    intro h
    by_cases e : i = n + 1
    · subst e; exact ⟨[], by simp⟩
    · obtain ⟨t, ht⟩ := ih (by omega)
      exact ⟨t ++ hitL G m (F n + d) (F n), by rw [fol_hit, ht, List.append_assoc]⟩
/-- At a hit the row has the place, just there. -/
theorem fol_at {F G : Nat → Int} {m n i : Nat} {d : Int} (hi : i < n) (h : amongB G m (F i + d) = true) : (folL F G m d i).length < (folL F G m d n).length ∧ (folL F G m d n).getD (folL F G m d i).length 0 = F i := by
  obtain ⟨t, ht⟩ := fol_prefix F G m d (i + 1) n (by omega)
  rw [fol_yes h] at ht
  rw [ht]
  refine ⟨by simp, ?_⟩
  simp [List.getD_eq_getElem?_getD]
theorem among_at {G : Nat → Int} {m k : Nat} {x : Int} (hk : k < m) (h : G k = x) : amongB G m x = true := decide_eq_true ⟨k, hk, h⟩
abbrev BoxG (W0 : World) (g : Nat) (row1 len1 : Int) (A1 : Option Addr) (n1 c1 : Nat) (W : World) : Prop :=
  Below W0.heap.size W0 W ∧ W.cell? ⟨g, 0, none⟩ = some (.int .i64 row1) ∧ W.cell? ⟨g, 1, none⟩ = some (.int .i64 len1) ∧ W.cell? ⟨g, 2, none⟩ = some (.slice A1 n1 c1)
section
variable {W0 W W' : World} {g : Nat} {row1 len1 : Int} {A1 : Option Addr} {n1 c1 : Nat} {F : Nat → Int} {d : Int}
theorem boxG_drew (h : BoxG W0 g row1 len1 A1 n1 c1 W) : BoxG W0 g row1 len1 A1 n1 c1 W.drew := ⟨h.1.drew, h.2⟩
theorem boxG_keep (h : BoxG W0 g row1 len1 A1 n1 c1 W) (l : Below W.heap.size W W') : BoxG W0 g row1 len1 A1 n1 c1 W' := by
  obtain ⟨h0, h1, h2, h3⟩ := h
  exact ⟨h0.trans (l.mono h0.size), bcell l h1 (cell_in h1), bcell l h2 (cell_in h2), bcell l h3 (cell_in h3)⟩
theorem onG (hS : Hid (BoxG W0 g row1 len1 A1 n1 c1 W)) (hF : Hid (∀ W, Below W0.heap.size W0 W → Ints W A1 n1 F)) (hnil : Hid (A1 = none → c1 = 0)) (hn : n1 ≤ 100) :
    Calls Try.prog 23 #[.agg #[.int .i64 row1, .int .i64 len1, .slice A1 n1 c1]] W fun e w' => ∃ A' c', e = .returned (.agg #[.int .i64 row1, .int .i64 len1, .slice A' n1 c']) ∧ BoxG W0 g row1 len1 A1 n1 c1 w' ∧ Ints w' A' n1 F ∧ Below W.heap.size W w' :=
  (one_any row1 len1 A1 n1 c1 F W (hF.out W hS.out.1) hnil.out (by omega)).mono fun e w' ⟨A', c', h1, h2, _, h4⟩ => ⟨A', c', h1, boxG_keep hS.out h4, h2, h4⟩
theorem folG {B1 B2 : Option Addr} {b1 b2 : Nat} (hS : Hid (BoxG W0 g row1 len1 A1 n1 c1 W)) (h1 : Hid (Ints W B1 n1 F)) (h2 : Hid (Ints W B2 n1 F)) :
    Calls Try.prog 22 #[.agg #[.int .i64 row1, .int .i64 len1, .slice B1 n1 b1], .agg #[.int .i64 row1, .int .i64 len1, .slice B2 n1 b2], .int .i64 d] W fun e w' => ∃ v, e = .returned v ∧ BoxG W0 g row1 len1 A1 n1 c1 w' ∧ OwnI w' W.heap.size v (followL row1 len1 n1 F row1 len1 n1 F d) :=
  (follow_any row1 len1 B1 n1 b1 F row1 len1 B2 n1 b2 F d W h1.out h2.out).mono fun e w' ⟨v, e1, e2, e3⟩ => ⟨v, e1, boxG_keep hS.out e3, e2⟩
theorem oneG {v : Bool} (hm : mayB row1 len1 n1 F = v) (hS : Hid (BoxG W0 g row1 len1 A1 n1 c1 W)) (hF : Hid (∀ W, Below W0.heap.size W0 W → Ints W A1 n1 F)) :
    Calls Try.prog 25 #[.agg #[.int .i64 row1, .int .i64 len1, .slice A1 n1 c1]] W fun e w' => e = .returned (.bool v) ∧ BoxG W0 g row1 len1 A1 n1 c1 w' ∧ Below W.heap.size W w' :=
  (refOne_is hm W (hF.out W hS.out.1)).mono fun e w' ⟨e1, e3⟩ => ⟨e1, boxG_keep hS.out e3, e3⟩
end
set_option maxRecDepth 100000 in
set_option maxHeartbeats 16000000 in
theorem shifts_no (row len : Int) (A : Option Addr) (n c : Nat) (F : Nat → Int) (d : Int) (w : World) (h1 : Ints w A n F) (hn1 : A = none → c = 0) (g1 : n ≤ 100) (hno : ¬ (1 ≤ d ∧ d ≤ 1048576 ∧ mayB row len n F = true)) :
    Calls Try.prog 7 #[.agg #[.int .i64 row, .int .i64 len, .slice A n c], .int .i64 d] w fun e w' => e = .returned (.bool true) ∧ Below w.heap.size w w' := by
  have hB : Below w.heap.size w (w.alloc (.cells #[.int .i64 row, .int .i64 len, .slice A n c] 36)) := (Below.refl _ _).alloc (Nat.le_refl _) _
  have SB0 : BoxG (w.alloc (.cells #[.int .i64 row, .int .i64 len, .slice A n c] 36)) w.heap.size row len A n c (w.alloc (.cells #[.int .i64 row, .int .i64 len, .slice A n c] 36)) := ⟨Below.refl _ _, by go_simp, by go_simp, by go_simp⟩
  have HB := Lib.hid hB
  have HF1 : Hid (∀ W, Below (w.alloc (.cells #[.int .i64 row, .int .i64 len, .slice A n c] 36)).heap.size (w.alloc (.cells #[.int .i64 row, .int .i64 len, .slice A n c] 36)) W → Ints W A n F) := Lib.hid fun W l => (h1.below hB (Nat.le_refl _)).below l (Nat.le_refl _)
  have HN1 := Lib.hid hn1
  have HE : Hid (followL row len n F row len n F d = []) := Lib.hid (if_neg fun z => hno ⟨z.1, z.2.1, decide_eq_true z.2.2.2.1⟩)
  have HAw := Lib.hid awake_any
  have HNo := Lib.hid hno
  clear h1 hn1 hB hno
  go_enter Try.func7, Try.ntmps7
  go_wp2_with fail
  obtain ⟨W0, hW0⟩ : ∃ W0, (w.alloc (.cells #[.int .i64 row, .int .i64 len, .slice A n c] 36)) = W0 := ⟨_, rfl⟩
  rw [hW0] at HF1 HB SB0 ⊢
  clear hW0
  have SB := Lib.hid SB0
  clear SB0
  go_region_held3 (fun W => Below W0.heap.size W0 W ∧ W.cell? ⟨w.heap.size, 0, none⟩ = some (.int .i64 row) ∧ W.cell? ⟨w.heap.size, 1, none⟩ = some (.int .i64 len) ∧ W.cell? ⟨w.heap.size, 2, none⟩ = some (.slice A n c)) (repeat (first | with_reducible assumption | with_reducible exact SB.out | with_reducible refine boxG_drew ?_)) (first
    | (go_at_call 23; (with_reducible refine (onG (Lib.hid hS1) HF1 HN1 g1).mono ?_); rintro e w2 ⟨B2, b2, rfl, hS2, i2, l2⟩; have J2 := Lib.hid i2; have J12 := Lib.hid (J1.out.below l2 (Nat.le_refl _)); clear i2 l2)
    | (go_at_call 23; (with_reducible refine (onG (Lib.hid (by repeat (first | with_reducible assumption | with_reducible exact SB.out | with_reducible refine boxG_drew ?_))) HF1 HN1 g1).mono ?_); rintro e w1 ⟨B1, b1, rfl, hS1, i1, l1⟩; have J1 := Lib.hid i1; clear i1 l1)
    | (go_at_call 22; (with_reducible refine (folG (Lib.hid hS2) J12 J2).mono ?_); rintro e w3 ⟨v3, rfl, hS3, o3⟩; have J3 := Lib.hid o3; clear o3))
  have K3 := Lib.hid hS3
  clear hS1 hS2
  have O3 := J3.out
  rw [HE.out] at O3
  obtain ⟨vA, vc, hv3, _⟩ := own_slice O3
  subst hv3
  obtain ⟨_, q0, q1, q2⟩ := id hS3
  clear O3 J3
  cases hm : mayB row len n F with
  | false =>
    have HO := Lib.hid (oneG hm (Lib.hid hS3) HF1)
    clear hm
    go_wp2_with (first
      | (go_at_call 25; (with_reducible refine HO.out.mono ?_); rintro e w4 ⟨rfl, hS4, l4⟩)
      | (go_at_call 16; (with_reducible refine (HAw.out _).mono ?_); rintro e w5 ⟨rfl, l5⟩; have L5 := Lib.hid l5; clear l5))
    go_ret
    exact ⟨rfl, HB.out.trans ((hS4.1.trans (L5.out.mono hS4.1.size)).mono HB.out.size)⟩
  | true =>
    have HO := Lib.hid (oneG hm (Lib.hid hS3) HF1)
    have HD : Hid (d < 1 ∨ (1 ≤ d ∧ 1048576 < d)) := Lib.hid (by
      by_cases e : 1 ≤ d
      · exact .inr ⟨e, Int.not_le.1 fun h => HNo.out ⟨e, h, hm⟩⟩
      · exact .inl (by omega))
    clear hm
    obtain hd | ⟨hd, hd2⟩ := HD.out
    · have k1 : decide (d < 1) = true := decide_eq_true hd
      go_wp2_with (first
        | (go_at_call 25; (with_reducible refine HO.out.mono ?_); rintro e w4 ⟨rfl, hS4, l4⟩)
        | (go_at_call 16; (with_reducible refine (HAw.out _).mono ?_); rintro e w5 ⟨rfl, l5⟩; have L5 := Lib.hid l5; clear l5))
      go_ret
      exact ⟨rfl, HB.out.trans ((hS4.1.trans (L5.out.mono hS4.1.size)).mono HB.out.size)⟩
    · have k1 : decide (1048576 < d) = true := decide_eq_true hd2
      go_wp2_with (first
        | (go_at_call 25; (with_reducible refine HO.out.mono ?_); rintro e w4 ⟨rfl, hS4, l4⟩)
        | (go_at_call 16; (with_reducible refine (HAw.out _).mono ?_); rintro e w5 ⟨rfl, l5⟩; have L5 := Lib.hid l5; clear l5))
      go_ret
      exact ⟨rfl, HB.out.trans ((hS4.1.trans (L5.out.mono hS4.1.size)).mono HB.out.size)⟩
set_option maxRecDepth 100000 in
set_option maxHeartbeats 32000000 in
theorem shifts_yes (row len : Int) (A : Option Addr) (n c : Nat) (F : Nat → Int) (d : Int) (w : World) (h1 : Ints w A n F) (hn1 : A = none → c = 0) (g1 : n ≤ 100) (d1 : 1 ≤ d) (d2 : d ≤ 1048576) (hm : mayB row len n F = true) :
    Calls Try.prog 7 #[.agg #[.int .i64 row, .int .i64 len, .slice A n c], .int .i64 d] w fun e w' => e = .returned (.bool true) ∧ Below w.heap.size w w' := by
  have hB : Below w.heap.size w (w.alloc (.cells #[.int .i64 row, .int .i64 len, .slice A n c] 36)) := (Below.refl _ _).alloc (Nat.le_refl _) _
  have SB0 : BoxG (w.alloc (.cells #[.int .i64 row, .int .i64 len, .slice A n c] 36)) w.heap.size row len A n c (w.alloc (.cells #[.int .i64 row, .int .i64 len, .slice A n c] 36)) := ⟨Below.refl _ _, by go_simp, by go_simp, by go_simp⟩
  have HB := Lib.hid hB
  have HF1 : Hid (∀ W, Below (w.alloc (.cells #[.int .i64 row, .int .i64 len, .slice A n c] 36)).heap.size (w.alloc (.cells #[.int .i64 row, .int .i64 len, .slice A n c] 36)) W → Ints W A n F) := Lib.hid fun W l => (h1.below hB (Nat.le_refl _)).below l (Nat.le_refl _)
  have HN1 := Lib.hid hn1
  have HG := Lib.hid (of_decide_eq_true hm : MayP row len n F)
  have HE : Hid (followL row len n F row len n F d = folL F F n d n) := Lib.hid (if_pos ⟨d1, d2, rfl, HG.out, HG.out⟩)
  have HI64 : Hid (∀ x ∈ folL F F n d n, In64 x) := Lib.hid fun x hx => by obtain ⟨i, hi, rfl⟩ := fol_mem F F n n d x hx; exact h1.2.1 i hi
  have hfl := fol_len F F n n d
  have HAw := Lib.hid awake_any
  have HM := Lib.hid hm
  clear h1 hn1 hB hm
  go_enter Try.func7, Try.ntmps7
  go_wp2_with fail
  obtain ⟨W0, hW0⟩ : ∃ W0, (w.alloc (.cells #[.int .i64 row, .int .i64 len, .slice A n c] 36)) = W0 := ⟨_, rfl⟩
  rw [hW0] at HF1 HB SB0 ⊢
  clear hW0
  have SB := Lib.hid SB0
  clear SB0
  go_region_held3 (fun W => Below W0.heap.size W0 W ∧ W.cell? ⟨w.heap.size, 0, none⟩ = some (.int .i64 row) ∧ W.cell? ⟨w.heap.size, 1, none⟩ = some (.int .i64 len) ∧ W.cell? ⟨w.heap.size, 2, none⟩ = some (.slice A n c)) (repeat (first | with_reducible assumption | with_reducible exact SB.out | with_reducible refine boxG_drew ?_)) (first
    | (go_at_call 23; (with_reducible refine (onG (Lib.hid hS1) HF1 HN1 g1).mono ?_); rintro e w2 ⟨B2, b2, rfl, hS2, i2, l2⟩; have J2 := Lib.hid i2; have J12 := Lib.hid (J1.out.below l2 (Nat.le_refl _)); clear i2 l2)
    | (go_at_call 23; (with_reducible refine (onG (Lib.hid (by repeat (first | with_reducible assumption | with_reducible exact SB.out | with_reducible refine boxG_drew ?_))) HF1 HN1 g1).mono ?_); rintro e w1 ⟨B1, b1, rfl, hS1, i1, l1⟩; have J1 := Lib.hid i1; clear i1 l1)
    | (go_at_call 22; (with_reducible refine (folG (Lib.hid hS2) J12 J2).mono ?_); rintro e w3 ⟨v3, rfl, hS3, o3⟩; have J3 := Lib.hid o3; clear o3))
  have K3 := Lib.hid hS3
  clear hS1 hS2
  have O3 := J3.out
  rw [HE.out] at O3
  obtain ⟨vA, vc, hv3, _⟩ := own_slice O3
  subst hv3
  have HV := Lib.hid (own_ints O3 HI64.out)
  obtain ⟨_, q0, q1, q2⟩ := id hS3
  have HO := Lib.hid (oneG HM.out (Lib.hid hS3) HF1)
  clear O3 J3 hS3 J12 J2 J1
  go_wp2_with (go_at_call 25; (with_reducible refine HO.out.mono ?_); rintro e w4 ⟨rfl, hS4, l4⟩; have HS4 := Lib.hid hS4; have HV4 := Lib.hid (HV.out.below l4 (Nat.le_refl _)); clear hS4 l4)
  obtain ⟨_, b0, b1, b2⟩ := id HS4.out
  have HA4 := Lib.hid (HF1.out w4 HS4.out.1)
  have hbx := cell_in b2
  clear q0 q1 q2 b0 b1 HV HO K3
  go_loopw [6, 7] (fun m i wr => ∃ q : Nat, q ≤ n ∧ i = .int .i64 q ∧ m = .int .i64 ((folL F F n d q).length : Nat) ∧ Below w4.heap.size w4 wr) (fun _ i _ => n - (intOf i).toNat)
  case atStart => exact ⟨0, by omega, rfl, rfl, Below.refl _ _⟩
  case round =>
    obtain ⟨q, hq, rfl, rfl, hnx⟩ := hrel
    have e2 := kcell hnx hbx b2
    by_cases hlt : q < n
    · obtain ⟨b, o, hA, hbl, hc⟩ := HA4.out.at_ (by omega)
      have hcF := hc q hlt
      have hlen := fol_len F F n q d
      have HFh := Lib.hid (fol_hit F F n q d)
      have hge := good_ge HG.out.2.2.2.2.2 q hlt
      have hgd := (HG.out.2.2.2.2.2 q hlt).2
      have hl1 := HG.out.2.2.2.1
      have f0 : 0 ≤ F q := by omega
      have f1 : F q ≤ 1048576 := by omega
      have HX := Lib.hid hnx
      have HAt : Hid (amongB F n (F q + d) = true → (folL F F n d q).length < (folL F F n d n).length ∧ (folL F F n d n).getD (folL F F n d q).length 0 = F q) := Lib.hid (fol_at hlt)
      have HK : Hid (∀ k, k < n → F k = F q + d → amongB F n (F q + d) = true) := Lib.hid fun k hk h => among_at hk h
      have HY : Hid (∀ k, k < n → F k = F q + d → hitL F k (F q + d) (F q) = [] ∧ hitL F (k + 1) (F q + d) (F q) = [F q]) := Lib.hid fun k hk h => hit_yes HG.out.2.2.2.2.2 hk h
      have HNo : Hid (∀ k, F k ≠ F q + d → hitL F (k + 1) (F q + d) (F q) = hitL F k (F q + d) (F q)) := Lib.hid fun k h => hit_no h
      clear hgd hge hl1 hnx
      generalize hf : F q = f at *
      have HFq := Lib.hid hf
      clear hf
      go_wp2_with fail
      obtain ⟨wo, HW⟩ : ∃ wo : World, Hid (wo = wr) := ⟨_, Lib.hid rfl⟩
      rw [← HW.out] at HX e2 ⊢
      clear HW
      go_loopw [6, 8] (fun m i wr => ∃ k : Nat, k ≤ n ∧ i = .int .i64 k ∧ m = .int .i64 (((folL F F n d q).length + (hitL F k (f + d) f).length : Nat) : Int) ∧ Below w4.heap.size w4 wr) (fun _ i _ => n - (intOf i).toNat)
      case atStart => exact ⟨0, by omega, rfl, by rw [hit_zero]; rfl, HX.out⟩
      case round =>
        obtain ⟨k, hk, rfl, rfl, hnx⟩ := hrel
        have g2 := kcell hnx hbx b2
        have hcf := kcell hnx hbl hcF
        have hhl := hit_len F k (f + d) f
        by_cases hlk : k < n
        · have hcG := kcell hnx hbl (hc k hlk)
          have HX2 := Lib.hid hnx
          have hge := good_ge HG.out.2.2.2.2.2 k hlk
          have hgd := (HG.out.2.2.2.2.2 k hlk).2
          have hl1 := HG.out.2.2.2.1
          have k0 : 0 ≤ F k := by omega
          have k1 : F k ≤ 1048576 := by omega
          have HYk := Lib.hid (HY.out k hlk)
          have HKk := Lib.hid (HK.out k hlk)
          have HNk := Lib.hid (HNo.out k)
          subst hA
          clear hnx hge hgd hl1 hc
          generalize F k = g at *
          by_cases hxx : g - f = d
          · have hgx : g = f + d := by omega
            obtain ⟨y1, y2⟩ := HYk.out hgx
            obtain ⟨z1, z2⟩ := HAt.out (HKk.out hgx)
            obtain ⟨vb, vo, hvA, hvb, hvc⟩ := HV4.out.at_ (by omega)
            have hcv := kcell HX2.out hvb (hvc _ z1)
            rw [z2] at hcv
            rw [y1] at *
            have HY2 := Lib.hid y2
            subst hvA
            have kx : (g - f == d) = true := by simpa using hxx
            simp only [List.length_nil, Nat.add_zero] at *
            clear y1 y2 HYk HNk hvc z2 hgx
            generalize (folL F F n d q).length = m at *
            generalize (folL F F n d n).length = M at *
            go_wp2_with fail
            go_quiet (fail)
            go_wp2_with fail
            go_quiet (fail)
            go_wp2_with fail
            exact ⟨⟨k + 1, by omega, by go_num, by rw [HY2.out]; go_num, HX2.out.trans (below_drewN _ _ _)⟩, by simp [intOf]; omega⟩
          · have kx : (g - f == d) = false := by simpa using hxx
            have HN2 := Lib.hid (HNk.out (fun h => hxx (by omega)))
            clear HYk HNk HKk hxx
            generalize (folL F F n d q).length = m at *
            go_wp2_with fail
            go_quiet (fail)
            go_wp2_with fail
            exact ⟨⟨k + 1, by omega, by go_num, by rw [HN2.out], HX2.out.trans (below_drewN _ _ _)⟩, by simp [intOf]; omega⟩
        · obtain rfl : n = k := by omega
          have HX2 := Lib.hid hnx
          have HLn : Hid ((folL F F n d (q + 1)).length = (folL F F n d q).length + (hitL F n (f + d) f).length) := Lib.hid (by rw [HFh.out, List.length_append])
          clear hnx
          go_wp2_with fail
          go_roundw
          case rel => exact ⟨q + 1, by omega, by go_num, by rw [HLn.out], HX2.out⟩
          case measure => simp [intOf]; omega
    · obtain rfl : n = q := by omega
      have HX := Lib.hid hnx
      clear hnx
      go_wp2_with (go_at_call 16; (with_reducible refine (HAw.out _).mono ?_); rintro e w5 ⟨rfl, l5⟩; have L5 := Lib.hid l5; clear l5)
      go_ret
      exact ⟨rfl, HB.out.trans ((HS4.out.1.trans ((HX.out.trans (L5.out.mono HX.out.size)).mono HS4.out.1.size)).mono HB.out.size)⟩
theorem blockShifts_walk (row len : Int) (A : Option Addr) (n c : Nat) (F : Nat → Int) (d : Int) (w : World) (h1 : Ints w A n F) (hn1 : A = none → c = 0) :
    Calls Try.prog 7 #[.agg #[.int .i64 row, .int .i64 len, .slice A n c], .int .i64 d] w fun e w' => e = .returned (.bool true) ∧ Below w.heap.size w w' := by
  have m1 := h1.1
  by_cases g1 : n ≤ 100
  · by_cases hh : 1 ≤ d ∧ d ≤ 1048576 ∧ mayB row len n F = true
    · exact shifts_yes row len A n c F d w h1 hn1 g1 hh.1 hh.2.1 hh.2.2
    · exact shifts_no row len A n c F d w h1 hn1 g1 hh
  · have k2 : decide ((100 : Int) < n) = true := decide_eq_true (by omega)
    have k3 : ¬ ((n : Int) ≤ 100) := by omega
    have HB := Lib.hid ((Below.refl w.heap.size w).alloc (Nat.le_refl _) (.cells #[.int .i64 row, .int .i64 len, .slice A n c] 36))
    clear h1
    go_enter Try.func7, Try.ntmps7
    go_wp2_with fail
    go_ret
    exact ⟨rfl, HB.out⟩
end Go.Proofs.Ytcmnnieeehmncaa
