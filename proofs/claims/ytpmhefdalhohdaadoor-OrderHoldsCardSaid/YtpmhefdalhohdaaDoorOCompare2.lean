/- order.compare and order.Compare. -/
import Derived.Test.YtpmhefdalhohdaaDoorOCompare
import Derived.Deep.QuietTactic
import Derived.BigQuiet
namespace Go.Proofs.YtpmhefdalhohdaaDoor
open Go.RowKit
set_option linter.unusedVariables false

theorem num_of {w : World} {S : Nat → Prop} {k n m q : _} {b s f g} {v : Value} (h : HasJ w S (.mk k b n s m f q g) v) (hk : k = 2) : v = .iface 54 (.int .i64 n) := by
  rcases h with ⟨h, _⟩ | ⟨h, _⟩ | ⟨h, e, _⟩ | ⟨h, _⟩ | ⟨h, _⟩ | ⟨h, _⟩ | ⟨h, _⟩
  all_goals first | exact e | omega
theorem text_of {w : World} {S : Nat → Prop} {k n m q : _} {b s f g} {v : Value} (h : HasJ w S (.mk k b n s m f q g) v) (hk : k = 3) : v = .iface 9 (.string s) ∧ s.size ≤ 140737488351232 := by
  rcases h with ⟨h, _⟩ | ⟨h, _⟩ | ⟨h, e, _⟩ | ⟨h, e, z⟩ | ⟨h, _⟩ | ⟨h, _⟩ | ⟨h, _⟩
  all_goals first | exact ⟨e, z⟩ | omega
theorem list_of {w : World} {S : Nat → Prop} {k n m q : _} {b s f g} {v : Value} (h : HasJ w S (.mk k b n s m f q g) v) (hk : k = 4) : ∃ A c, v = .iface 50 (.slice A m c) ∧ m ≤ c ∧ c ≤ 9223372036854775807 ∧ ∀ i, i < m → ∃ u, HasJ w S (f i) u ∧ cellAt w A i = some u := by
  rcases h with ⟨h, _⟩ | ⟨h, _⟩ | ⟨h, e, _⟩ | ⟨h, e, _⟩ | ⟨_, A, c, e, h1, h2, _, h3⟩ | ⟨h, _⟩ | ⟨h, _⟩
  all_goals first | exact ⟨A, c, e, h1, h2, h3⟩ | omega
theorem object_of {w : World} {S : Nat → Prop} {k n m q : _} {b s f g} {v : Value} (h : HasJ w S (.mk k b n s m f q g) v) (hk : k = 5) : ∃ A c, v = .iface 56 (.slice A m c) ∧ m ≤ c ∧ c ≤ 9223372036854775807 ∧ ∀ i, i < m → (g i).size ≤ 140737488351232 ∧ cellAt w A (2 * i) = some (.string (g i)) ∧ ∃ u, HasJ w S (f i) u ∧ cellAt w A (2 * i + 1) = some u := by
  rcases h with ⟨h, _⟩ | ⟨h, _⟩ | ⟨h, e, _⟩ | ⟨h, e, _⟩ | ⟨h, _⟩ | ⟨_, A, c, e, h1, h2, _, h3⟩ | ⟨h, _⟩
  all_goals first | exact ⟨A, c, e, h1, h2, h3⟩ | omega
set_option maxHeartbeats 4000000 in
set_option maxRecDepth 100000 in
theorem compare_ne (t u : VT) (v1 v2 : Value) (w : World) (h1 : JV w t v1) (h2 : JV w u v2) (f1 : Fit t) (f2 : Fit u) (hr : rankV t ≠ rankV u) :
    Calls Tryd.prog 27 #[v1, v2] w fun e w' => e = .returned (.int .i64 (cmpI (rankV t) (rankV u))) ∧ Below w.heap.size w w' := by
  have K1 := Lib.hid (kind_any h1 f1.kind)
  have K2 := Lib.hid (kind_any h2 f2.kind)
  have KC := Lib.hid (fun W => cmp_byte (rankV t) (rankV u) W)
  have e0 : (cmpI (rankV t) (rankV u) != 0) = true := by
    unfold cmpI
    by_cases q : rankV t < rankV u
    · rw [if_pos q]; rfl
    · rw [if_neg q, if_pos (by omega)]; rfl
  obtain ⟨R, hR⟩ : ∃ R, R = cmpI (rankV t) (rankV u) := ⟨_, rfl⟩
  rw [← hR] at KC e0 ⊢
  clear hR h1 h2 hr
  go_enter Tryd.func27, Tryd.ntmps27
  go_wp2_with fail
  refine (K1.out _).mono ?_
  rintro e w2 ⟨rfl, rfl⟩
  go_wp2_with fail
  refine (K2.out _).mono ?_
  rintro e w2 ⟨rfl, rfl⟩
  go_wp2_with fail
  refine (KC.out _).mono ?_
  rintro e w2 ⟨rfl, rfl⟩
  go_wp2_with fail
  go_ret
  exact ⟨rfl, Below.refl _ _⟩
/-- What stands behind the kinds. -/
theorem cmp_zero (a : Int) : cmpI a a = 0 := cmpI_eq rfl
theorem below_refl_dN {k : Nat} {w : World} : Below w.heap.size w (w.drewN k) := ⟨rfl, rfl, rfl, Nat.le_refl _, fun _ _ => rfl⟩
set_option maxHeartbeats 4000000 in
set_option maxRecDepth 100000 in
theorem compare_num (t u : VT) (w : World) (a b : Int) (h1 : JV w t (.iface 54 (.int .i64 a))) (h2 : JV w u (.iface 54 (.int .i64 b))) (f1 : Fit t) (f2 : Fit u) (r1 : rankV t = 4) (r2 : rankV u = 4) :
    Calls Tryd.prog 27 #[(.iface 54 (.int .i64 a)), (.iface 54 (.int .i64 b))] w fun e w' => e = .returned (.int .i64 (cmpI a b)) ∧ Below w.heap.size w w' := by
  have K1 := Lib.hid (kind_any h1 f1.kind)
  have K2 := Lib.hid (kind_any h2 f2.kind)
  have KC := Lib.hid (fun W => cmp_byte 4 4 W)
  rw [r1] at K1
  rw [r2] at K2
  rw [cmp_zero] at KC
  clear r1 r2 h1 h2
  go_enter Tryd.func27, Tryd.ntmps27
  go_wp2_with fail
  refine (K1.out _).mono ?_
  rintro e w2 ⟨rfl, rfl⟩
  go_wp2_with fail
  refine (K2.out _).mono ?_
  rintro e w2 ⟨rfl, rfl⟩
  go_wp2_with fail
  refine (KC.out _).mono ?_
  rintro e w2 ⟨rfl, rfl⟩
  have KX := Lib.hid (fun W => cmp_num a b W)
  go_wp2_with fail
  go_quiet ((go_at_call 41; exact Calls.quiet_of_same ((KX.out _).mono fun e w' ⟨he, hw⟩ => ⟨he, hw.symm⟩)))
  all_goals
    go_wp2_with fail
    go_ret
    exact ⟨rfl, below_refl_dN⟩
set_option maxHeartbeats 4000000 in
set_option maxRecDepth 100000 in
theorem compare_text (t u : VT) (w : World) (a b : ByteArray) (h1 : JV w t (.iface 9 (.string a))) (h2 : JV w u (.iface 9 (.string b))) (f1 : Fit t) (f2 : Fit u) (r1 : rankV t = 5) (r2 : rankV u = 5) :
    Calls Tryd.prog 27 #[(.iface 9 (.string a)), (.iface 9 (.string b))] w fun e w' => e = .returned (.int .i64 (cmpS a.data.toList b.data.toList)) ∧ Below w.heap.size w w' := by
  have K1 := Lib.hid (kind_any h1 f1.kind)
  have K2 := Lib.hid (kind_any h2 f2.kind)
  have KC := Lib.hid (fun W => cmp_byte 5 5 W)
  rw [r1] at K1
  rw [r2] at K2
  rw [cmp_zero] at KC
  clear r1 r2 h1 h2
  go_enter Tryd.func27, Tryd.ntmps27
  go_wp2_with fail
  refine (K1.out _).mono ?_
  rintro e w2 ⟨rfl, rfl⟩
  go_wp2_with fail
  refine (K2.out _).mono ?_
  rintro e w2 ⟨rfl, rfl⟩
  go_wp2_with fail
  refine (KC.out _).mono ?_
  rintro e w2 ⟨rfl, rfl⟩
  have KX := Lib.hid (fun W => cmp_str a b W)
  go_wp2_with fail
  go_quiet ((go_at_call 42; exact Calls.quiet_of_same ((KX.out _).mono fun e w' ⟨he, hw⟩ => ⟨he, hw.symm⟩)))
  all_goals
    go_wp2_with fail
    go_ret
    exact ⟨rfl, below_refl_dN⟩
set_option maxHeartbeats 4000000 in
set_option maxRecDepth 100000 in
theorem compare_list (t u : VT) (w : World) (A B : Option Addr) (m m' c c' : Nat) (R : Int) (h1 : JV w t (.iface 50 (.slice A m c))) (h2 : JV w u (.iface 50 (.slice B m' c'))) (f1 : Fit t) (f2 : Fit u) (r1 : rankV t = 6) (r2 : rankV u = 6)
    (kx : ∀ W : World, Below w.heap.size w W → Calls Tryd.prog 43 #[.slice A m c, .slice B m' c', .func (.func 27) #[] #[]] W fun e w' => e = .returned (.int .i64 R) ∧ Below w.heap.size w w') :
    Calls Tryd.prog 27 #[(.iface 50 (.slice A m c)), (.iface 50 (.slice B m' c'))] w fun e w' => e = .returned (.int .i64 R) ∧ Below w.heap.size w w' := by
  have K1 := Lib.hid (kind_any h1 f1.kind)
  have K2 := Lib.hid (kind_any h2 f2.kind)
  have KC := Lib.hid (fun W => cmp_byte 6 6 W)
  rw [r1] at K1
  rw [r2] at K2
  rw [cmp_zero] at KC
  have KX := Lib.hid kx
  clear r1 r2 h1 h2 kx
  go_enter Tryd.func27, Tryd.ntmps27
  go_wp2_with fail
  refine (K1.out _).mono ?_
  rintro e w2 ⟨rfl, rfl⟩
  go_wp2_with fail
  refine (K2.out _).mono ?_
  rintro e w2 ⟨rfl, rfl⟩
  go_wp2_with fail
  refine (KC.out _).mono ?_
  rintro e w2 ⟨rfl, rfl⟩
  go_wp2_with fail
  go_region_held_law (fun W => W.os = w.os)
    (first | exact rfl | exact LB.out.os)
    ((go_at_call 43; refine (KX.out _ (by first | exact Below.refl _ _ | exact (Below.refl _ _).drew)).mono ?_; rintro e w2 ⟨rfl, l2⟩; have LB := Lib.hid l2; clear l2))
  all_goals
    go_wp2_with fail
    go_ret
    exact ⟨rfl, LB.out⟩
set_option maxHeartbeats 4000000 in
set_option maxRecDepth 100000 in
theorem compare_object (t u : VT) (w : World) (A B : Option Addr) (m m' c c' : Nat) (R : Int) (h1 : JV w t (.iface 56 (.slice A m c))) (h2 : JV w u (.iface 56 (.slice B m' c'))) (f1 : Fit t) (f2 : Fit u) (r1 : rankV t = 7) (r2 : rankV u = 7)
    (kx : ∀ W : World, Below w.heap.size w W → Calls Tryd.prog 44 #[.slice A m c, .slice B m' c', .func (.func 45) #[] #[]] W fun e w' => e = .returned (.int .i64 R) ∧ Below w.heap.size w w') :
    Calls Tryd.prog 27 #[(.iface 56 (.slice A m c)), (.iface 56 (.slice B m' c'))] w fun e w' => e = .returned (.int .i64 R) ∧ Below w.heap.size w w' := by
  have K1 := Lib.hid (kind_any h1 f1.kind)
  have K2 := Lib.hid (kind_any h2 f2.kind)
  have KC := Lib.hid (fun W => cmp_byte 7 7 W)
  rw [r1] at K1
  rw [r2] at K2
  rw [cmp_zero] at KC
  have KX := Lib.hid kx
  clear r1 r2 h1 h2 kx
  go_enter Tryd.func27, Tryd.ntmps27
  go_wp2_with fail
  refine (K1.out _).mono ?_
  rintro e w2 ⟨rfl, rfl⟩
  go_wp2_with fail
  refine (K2.out _).mono ?_
  rintro e w2 ⟨rfl, rfl⟩
  go_wp2_with fail
  refine (KC.out _).mono ?_
  rintro e w2 ⟨rfl, rfl⟩
  go_wp2_with fail
  go_region_held_law (fun W => W.os = w.os)
    (first | exact rfl | exact LB.out.os)
    ((go_at_call 44; refine (KX.out _ (by first | exact Below.refl _ _ | exact (Below.refl _ _).drew)).mono ?_; rintro e w2 ⟨rfl, l2⟩; have LB := Lib.hid l2; clear l2))
  all_goals
    go_wp2_with fail
    go_ret
    exact ⟨rfl, LB.out⟩
set_option maxHeartbeats 4000000 in
set_option maxRecDepth 100000 in
theorem compare_low1 (t u : VT) (w : World) (v1 v2 : Value) (h1 : JV w t v1) (h2 : JV w u v2) (f1 : Fit t) (f2 : Fit u) (r1 : rankV t = 1) (r2 : rankV u = 1) :
    Calls Tryd.prog 27 #[v1, v2] w fun e w' => e = .returned (.int .i64 0) ∧ Below w.heap.size w w' := by
  have K1 := Lib.hid (kind_any h1 f1.kind)
  have K2 := Lib.hid (kind_any h2 f2.kind)
  have KC := Lib.hid (fun W => cmp_byte 1 1 W)
  rw [r1] at K1
  rw [r2] at K2
  rw [cmp_zero] at KC
  clear r1 r2 h1 h2
  go_enter Tryd.func27, Tryd.ntmps27
  go_wp2_with fail
  refine (K1.out _).mono ?_
  rintro e w2 ⟨rfl, rfl⟩
  go_wp2_with fail
  refine (K2.out _).mono ?_
  rintro e w2 ⟨rfl, rfl⟩
  go_wp2_with fail
  refine (KC.out _).mono ?_
  rintro e w2 ⟨rfl, rfl⟩
  go_wp2_with fail
  go_ret
  exact ⟨rfl, Below.refl _ _⟩
set_option maxHeartbeats 4000000 in
set_option maxRecDepth 100000 in
theorem compare_low2 (t u : VT) (w : World) (v1 v2 : Value) (h1 : JV w t v1) (h2 : JV w u v2) (f1 : Fit t) (f2 : Fit u) (r1 : rankV t = 2) (r2 : rankV u = 2) :
    Calls Tryd.prog 27 #[v1, v2] w fun e w' => e = .returned (.int .i64 0) ∧ Below w.heap.size w w' := by
  have K1 := Lib.hid (kind_any h1 f1.kind)
  have K2 := Lib.hid (kind_any h2 f2.kind)
  have KC := Lib.hid (fun W => cmp_byte 2 2 W)
  rw [r1] at K1
  rw [r2] at K2
  rw [cmp_zero] at KC
  clear r1 r2 h1 h2
  go_enter Tryd.func27, Tryd.ntmps27
  go_wp2_with fail
  refine (K1.out _).mono ?_
  rintro e w2 ⟨rfl, rfl⟩
  go_wp2_with fail
  refine (K2.out _).mono ?_
  rintro e w2 ⟨rfl, rfl⟩
  go_wp2_with fail
  refine (KC.out _).mono ?_
  rintro e w2 ⟨rfl, rfl⟩
  go_wp2_with fail
  go_ret
  exact ⟨rfl, Below.refl _ _⟩
set_option maxHeartbeats 4000000 in
set_option maxRecDepth 100000 in
theorem compare_low3 (t u : VT) (w : World) (v1 v2 : Value) (h1 : JV w t v1) (h2 : JV w u v2) (f1 : Fit t) (f2 : Fit u) (r1 : rankV t = 3) (r2 : rankV u = 3) :
    Calls Tryd.prog 27 #[v1, v2] w fun e w' => e = .returned (.int .i64 0) ∧ Below w.heap.size w w' := by
  have K1 := Lib.hid (kind_any h1 f1.kind)
  have K2 := Lib.hid (kind_any h2 f2.kind)
  have KC := Lib.hid (fun W => cmp_byte 3 3 W)
  rw [r1] at K1
  rw [r2] at K2
  rw [cmp_zero] at KC
  clear r1 r2 h1 h2
  go_enter Tryd.func27, Tryd.ntmps27
  go_wp2_with fail
  refine (K1.out _).mono ?_
  rintro e w2 ⟨rfl, rfl⟩
  go_wp2_with fail
  refine (K2.out _).mono ?_
  rintro e w2 ⟨rfl, rfl⟩
  go_wp2_with fail
  refine (KC.out _).mono ?_
  rintro e w2 ⟨rfl, rfl⟩
  go_wp2_with fail
  go_ret
  exact ⟨rfl, Below.refl _ _⟩
theorem rank_kind {t : VT} (h : Fit t) : (t.k = 0 ∧ rankV t = 1) ∨ (t.k = 1 ∧ (rankV t = 2 ∨ rankV t = 3)) ∨ (2 ≤ t.k ∧ t.k ≤ 5 ∧ rankV t = t.k + 2) := by
  have := h.kind
  unfold rankV
  by_cases h0 : t.k = 0
  · rw [if_pos h0]; exact .inl ⟨h0, rfl⟩
  · rw [if_neg h0]
    by_cases h1 : t.k = 1
    · rw [if_pos h1]; refine .inr (.inl ⟨h1, ?_⟩); split <;> simp
    · rw [if_neg h1]; exact .inr (.inr ⟨by omega, by omega, rfl⟩)
theorem cmpV_ne {t u : VT} (ft : Fit t) (h : rankV t ≠ rankV u) : cmpV t u = cmpI (rankV t) (rankV u) := by
  rcases t with _ | ⟨k, b, n, s, m, f, q, g⟩
  · exact absurd ft.kind.2 (by decide)
  rw [cmpV, if_pos h]
theorem cmpV_low {t u : VT} (h : rankV t = rankV u) (hk : t.k < 2) (h0 : 0 ≤ t.k) : cmpV t u = 0 := by
  rcases t with _ | ⟨k, b, n, s, m, f, q, g⟩
  · rfl
  have hk : k < 2 := hk
  have h0 : 0 ≤ k := h0
  rw [cmpV, if_neg (fun e => e h), if_neg (by omega), if_neg (by omega), if_neg (by omega)]
theorem compare_mk (k : Int) (b : Bool) (n : Int) (s : ByteArray) (m : Nat) (f : Nat → VT) (q : Nat) (g : Nat → ByteArray) (ih : ∀ i, CmpC (f i)) : CmpC (.mk k b n s m f q g) := by
  intro u v1 v2 w h1 h2 f1 f2
  by_cases hr : rankV (.mk k b n s m f q g) = rankV u
  · have k1 := rank_kind f1
    have k2 := rank_kind f2
    have hn : ¬ (rankV (.mk k b n s m f q g) ≠ rankV u) := fun e => e hr
    have k1 : (k = 0 ∧ rankV (.mk k b n s m f q g) = 1) ∨ (k = 1 ∧ (rankV (.mk k b n s m f q g) = 2 ∨ rankV (.mk k b n s m f q g) = 3)) ∨ (2 ≤ k ∧ k ≤ 5 ∧ rankV (.mk k b n s m f q g) = k + 2) := k1
    rcases k1 with ⟨e1, e2⟩ | ⟨e1, e2 | e2⟩ | ⟨e1, e2, e3⟩
    · rw [cmpV_low hr (by show k < 2; omega) (by show 0 ≤ k; omega)]
      exact compare_low1 _ u w v1 v2 h1 h2 f1 f2 e2 (by omega)
    · rw [cmpV_low hr (by show k < 2; omega) (by show 0 ≤ k; omega)]
      exact compare_low2 _ u w v1 v2 h1 h2 f1 f2 e2 (by omega)
    · rw [cmpV_low hr (by show k < 2; omega) (by show 0 ≤ k; omega)]
      exact compare_low3 _ u w v1 v2 h1 h2 f1 f2 e2 (by omega)
    · have hku : u.k = k := by omega
      rcases u with _ | ⟨k', b', n', s', m', f', q', g'⟩
      · exact h2.elim
      have hku : k' = k := hku
      subst hku
      rcases (show k' = 2 ∨ k' = 3 ∨ k' = 4 ∨ k' = 5 by omega) with rfl | rfl | rfl | rfl
      · have a1 := num_of h1 rfl
        have a2 := num_of h2 rfl
        subst a1 a2
        rw [cmpV, if_neg hn, if_pos rfl]
        exact compare_num _ _ w n n' h1 h2 f1 f2 (by omega) (by omega)
      · obtain ⟨a1, _⟩ := text_of h1 rfl
        obtain ⟨a2, _⟩ := text_of h2 rfl
        subst a1 a2
        rw [cmpV, if_neg hn, if_neg (by decide), if_pos rfl]
        exact compare_text _ _ w s s' h1 h2 f1 f2 (by omega) (by omega)
      · obtain ⟨A, c, rfl, p1, p2, p3⟩ := list_of h1 rfl
        obtain ⟨B, c', rfl, q1, q2, q3⟩ := list_of h2 rfl
        rw [cmpV, if_neg hn, if_neg (by decide), if_neg (by decide), if_pos (.inl rfl)]
        refine compare_list _ _ w A B m m' c c' _ h1 h2 f1 f2 (by omega) (by omega) fun W hb => ?_
        have := rows_any f f' m m' A B c c' W (fun i hi => by
            obtain ⟨x, x1, x2⟩ := p3 i hi
            exact ⟨x, JV.below x1 hb, (KeepC.below hb).at x2⟩) (fun i hi => by
            obtain ⟨x, x1, x2⟩ := q3 i hi
            exact ⟨x, JV.below x1 hb, (KeepC.below hb).at x2⟩) (fun i hi => (f1.item (.inl rfl) hi).1) (fun i hi => (f2.item (.inl rfl) hi).1) ih p1 p2 q1 q2
        refine this.mono fun e w' ⟨he, hw⟩ => ⟨he.trans ?_, hb.trans (hw.mono hb.size)⟩
        unfold rowV
        simp
        rfl
      · obtain ⟨A, c, rfl, p1, p2, p3⟩ := object_of h1 rfl
        obtain ⟨B, c', rfl, q1, q2, q3⟩ := object_of h2 rfl
        rw [cmpV, if_neg hn, if_neg (by decide), if_neg (by decide), if_pos (.inr rfl)]
        refine compare_object _ _ w A B m m' c c' _ h1 h2 f1 f2 (by omega) (by omega) fun W hb => ?_
        have := rows_mem f f' g g' m m' A B c c' W (fun i hi => by
            obtain ⟨_, x0, x, x1, x2⟩ := p3 i hi
            exact ⟨(KeepC.below hb).at x0, x, JV.below x1 hb, (KeepC.below hb).at x2⟩) (fun i hi => by
            obtain ⟨_, x0, x, x1, x2⟩ := q3 i hi
            exact ⟨(KeepC.below hb).at x0, x, JV.below x1 hb, (KeepC.below hb).at x2⟩) (fun i hi => (f1.item (.inr rfl) hi).1) (fun i hi => (f2.item (.inr rfl) hi).1) ih p1 p2 q1 q2
        refine this.mono fun e w' ⟨he, hw⟩ => ⟨he.trans ?_, hb.trans (hw.mono hb.size)⟩
        unfold rowV memC
        simp
        rfl
  · rw [cmpV_ne f1 hr]
    exact compare_ne _ u v1 v2 w h1 h2 f1 f2 hr
theorem compare_rec : ∀ t : VT, CmpC t
  | .no => fun _ _ _ _ h => h.elim
  | .mk k b n s m f q g => compare_mk k b n s m f q g fun i => compare_rec (f i)
theorem JV.of {w w' : World} {S : Nat → Prop} {t : VT} {v : Value} (h : HasJ w S t v) (hS : ∀ x, S x → x < w.heap.size) (hb : Below w.heap.size w w') : JV w' t v := h.keep fun x hx => ⟨hb.block x (hS x hx), Nat.lt_of_lt_of_le (hS x hx) hb.size⟩
/-- What Compare tells. -/
def cmpEV (t u : VT) : Int := if mayV t 0 ≠ 0 then 0 else if mayV u 0 ≠ 0 then 0 else cmpV t u
def cmpEE (t u : VT) : Int := if mayV t 0 ≠ 0 then mayV t 0 else mayV u 0
set_option maxHeartbeats 4000000 in
set_option maxRecDepth 100000 in
theorem Compare_any (t u : VT) (v1 v2 : Value) (w : World) (h1 : JV w t v1) (h2 : JV w u v2) (s1 : Small t) (s2 : Small u) (hT : TabU w) :
    Calls Tryd.prog 12 #[v1, v2] w fun e w' => e = .returned (.tuple #[.int .i64 (cmpEV t u), .int .i64 (cmpEE t u)]) ∧ Below w.heap.size w w' := by
  have M1 := Lib.hid (may_any s1 h1 (fun x hx => hx) hT)
  have M2 := Lib.hid (fun (W : World) (hb : Below w.heap.size w W) => may_any s2 (h2.below hb) (fun x hx => hx) (hT.below hb))
  have C := Lib.hid (fun (W : World) (hb : Below w.heap.size w W) (f1 : Fit t) (f2 : Fit u) => compare_rec t u v1 v2 W (h1.below hb) (h2.below hb) f1 f2)
  have HF1 := Lib.hid (show mayV t 0 = 0 → Fit t from fun h => ⟨0, h⟩)
  have HF2 := Lib.hid (show mayV u 0 = 0 → Fit u from fun h => ⟨0, h⟩)
  clear h1 h2 hT
  unfold cmpEV cmpEE
  obtain ⟨R1, hR1⟩ : ∃ R1, R1 = mayV t 0 := ⟨_, rfl⟩
  obtain ⟨R2, hR2⟩ : ∃ R2, R2 = mayV u 0 := ⟨_, rfl⟩
  rw [← hR1] at M1 HF1 ⊢
  rw [← hR2] at HF2 ⊢
  have M2' : ∀ (W : World) (hb : Below w.heap.size w W), Calls Tryd.prog 26 #[v2] W fun e w' => e = .returned (.int .i64 R2) ∧ Below W.heap.size W w' := fun W hb => by rw [hR2]; exact M2.out W hb
  have M3 := Lib.hid M2'
  clear hR1 hR2 M2 M2'
  by_cases z1 : R1 = 0
  · subst z1
    by_cases z2 : R2 = 0
    · subst z2
      rw [if_neg (by simp), if_neg (by simp), if_neg (by simp)]
      obtain ⟨c, hc⟩ : ∃ c, c = cmpV t u := ⟨_, rfl⟩
      have C2 : ∀ (W : World) (hb : Below w.heap.size w W), Calls Tryd.prog 27 #[v1, v2] W fun e w' => e = .returned (.int .i64 c) ∧ Below W.heap.size W w' := fun W hb => by rw [hc]; exact C.out W hb (HF1.out rfl) (HF2.out rfl)
      have CC := Lib.hid C2
      rw [← hc]
      clear C2 hc
      go_enter Tryd.func12, Tryd.ntmps12
      go_wp2_with fail
      refine M1.out.mono ?_
      rintro e w1 ⟨rfl, l1⟩
      have L1 := Lib.hid l1
      clear l1
      go_wp2_with fail
      refine (M3.out _ L1.out).mono ?_
      rintro e w2 ⟨rfl, l2⟩
      have L2 := Lib.hid (L1.out.trans (l2.mono L1.out.size))
      clear l2
      go_wp2_with fail
      refine (CC.out _ L2.out).mono ?_
      rintro e w3 ⟨rfl, l3⟩
      have L3 := Lib.hid (L2.out.trans (l3.mono L2.out.size))
      clear l3
      go_wp2_with fail
      go_ret2
      exact ⟨rfl, L3.out⟩
    · rw [if_neg (by simp), if_pos z2, if_neg (by simp)]
      have e2 : (R2 != 0) = true := by simpa using z2
      clear z2
      go_enter Tryd.func12, Tryd.ntmps12
      go_wp2_with fail
      refine M1.out.mono ?_
      rintro e w1 ⟨rfl, l1⟩
      have L1 := Lib.hid l1
      clear l1
      go_wp2_with fail
      refine (M3.out _ L1.out).mono ?_
      rintro e w2 ⟨rfl, l2⟩
      have L2 := Lib.hid (L1.out.trans (l2.mono L1.out.size))
      clear l2
      go_wp2_with fail
      go_ret2
      exact ⟨rfl, L2.out⟩
  · rw [if_pos z1, if_pos z1]
    have e1 : (R1 != 0) = true := by simpa using z1
    clear z1
    go_enter Tryd.func12, Tryd.ntmps12
    go_wp2_with fail
    refine M1.out.mono ?_
    rintro e w1 ⟨rfl, l1⟩
    have L1 := Lib.hid l1
    clear l1
    go_wp2_with fail
    go_ret2
    exact ⟨rfl, L1.out⟩
end Go.Proofs.YtpmhefdalhohdaaDoor
