/- GeomRings: the walk. -/
import Derived.Test.YtlkdjpidofnhdaaGRefIn
import Derived.Test.YtlkdjpidofnhdaaGAwake
import Derived.Test.YtlkdjpidofnhdaaGArgs3
import Derived.Test.YtlkdjpidofnhdaaGPts
import Derived.Deep.DeepCutAuto
import Derived.Deep.CutRange
import Derived.Deep.RegionHeldLaw
namespace Go.Proofs.Ytlkdjpidofnhdaa
open Go.RowKit
set_option linter.unusedVariables false

theorem refIn_nil (A : Option Addr) (c : Nat) (p : Pt) (w : World) : Calls Try.prog 22 #[.slice A 0 c, .agg #[.int .i64 p.x, .int .i64 p.y]] w fun e w' => e = .returned (.int .i64 0) ∧ Below w.heap.size w w' := by
  have hL := Lib.hid (show Below w.heap.size w (w.alloc (.cells #[.int .i64 p.x, .int .i64 p.y] 23)) from (Below.refl w.heap.size w).alloc (Nat.le_refl _) _)
  go_enter Try.func22, Try.ntmps22
  go_wp2
  go_ret
  exact ⟨rfl, hL.out⟩
theorem refIn_any (A : Option Addr) (n c : Nat) (F : Nat → Pt) (p : Pt) (w : World) (hP : Pts w A n F) (hF : MayN F n) (hp : MayP p) (hn : n ≤ 1000) : Calls Try.prog 22 #[.slice A n c, .agg #[.int .i64 p.x, .int .i64 p.y]] w fun e w' => e = .returned (.int .i64 (insideI F n p)) ∧ Below w.heap.size w w' := by
  rcases Nat.eq_zero_or_pos n with h0 | h0
  · subst h0
    have h := refIn_nil A c p w
    rwa [show insideI F 0 p = 0 from in_no (by unfold InOk; simp)]
  · obtain ⟨b, o, rfl, _⟩ := hP.2 h0
    exact refIn_main b o n c F p w hP hF hp hn h0
theorem inside_congr {F G : Nat → Pt} {n : Nat} {p : Pt} (h : ∀ k, k < n → F k = G k) : insideI F n p = insideI G n p := by
  have hedge : ∀ k, k < n → edgeAt F n k = edgeAt G n k := fun k hk => by
    unfold edgeAt
    rw [h k hk, h _ (Nat.mod_lt _ (by omega))]
  refine inside_eq ?_ ?_ ?_
  · unfold InOk
    rw [allB_congr h]
  · constructor
    · rintro ⟨k, hk, ho⟩
      exact ⟨k, hk, by rwa [← hedge k hk]⟩
    · rintro ⟨k, hk, ho⟩
      exact ⟨k, hk, by rwa [hedge k hk]⟩
  · exact xorN_congr fun k hk => by rw [hedge k hk]
theorem below_grown_own {W0 X w' : World} (h : X.grownBy w' (blkA (some ⟨W0.heap.size, 0, none⟩))) (hz : W0.heap.size ≤ X.heap.size) : Below W0.heap.size X w' :=
  (Below.refl _ X).grown h hz fun k e => by injection e with e; exact Nat.le_of_eq e
theorem sr_keep {W0 W W' : World} {q : Nat} {p : Pt} (l : Below W0.heap.size W W') (h : Below W0.heap.size W0 W ∧ (W.cell? ⟨q, 0, none⟩ = some (.int .i64 p.x) ∧ W.cell? ⟨q, 1, none⟩ = some (.int .i64 p.y)) ∧ q < W0.heap.size) : Below W0.heap.size W0 W' ∧ (W'.cell? ⟨q, 0, none⟩ = some (.int .i64 p.x) ∧ W'.cell? ⟨q, 1, none⟩ = some (.int .i64 p.y)) ∧ q < W0.heap.size :=
  ⟨h.1.trans l, ⟨kp' l h.2.2 h.2.1.1, kp' l h.2.2 h.2.1.2⟩, h.2.2⟩
theorem sr_alloc {W0 W : World} {q : Nat} {p : Pt} (ob : Obj) (h : Below W0.heap.size W0 W ∧ (W.cell? ⟨q, 0, none⟩ = some (.int .i64 p.x) ∧ W.cell? ⟨q, 1, none⟩ = some (.int .i64 p.y)) ∧ q < W0.heap.size) : Below W0.heap.size W0 (W.alloc ob) ∧ ((W.alloc ob).cell? ⟨q, 0, none⟩ = some (.int .i64 p.x) ∧ (W.alloc ob).cell? ⟨q, 1, none⟩ = some (.int .i64 p.y)) ∧ q < W0.heap.size := sr_keep ((Below.refl _ _).alloc h.1.size _) h
theorem sr_drew {W0 W : World} {q : Nat} {p : Pt} (h : Below W0.heap.size W0 W ∧ (W.cell? ⟨q, 0, none⟩ = some (.int .i64 p.x) ∧ W.cell? ⟨q, 1, none⟩ = some (.int .i64 p.y)) ∧ q < W0.heap.size) : Below W0.heap.size W0 W.drew ∧ (W.drew.cell? ⟨q, 0, none⟩ = some (.int .i64 p.x) ∧ W.drew.cell? ⟨q, 1, none⟩ = some (.int .i64 p.y)) ∧ q < W0.heap.size := sr_keep (Below.refl _ _).drew h
set_option maxRecDepth 100000 in
set_option maxHeartbeats 1600000 in
theorem rings_big (s : Sl) (p : Pt) (w : World) (h : ¬ s.n ≤ 100) : Calls Try.prog 4 #[.slice s.A s.n s.c, .agg #[.int .i64 p.x, .int .i64 p.y]] w fun e w' => e = .returned (.bool true) ∧ Below w.heap.size w w' := by
  have hL := Lib.hid (show Below w.heap.size w (w.alloc (.cells #[.int .i64 p.x, .int .i64 p.y] 23)) from (Below.refl w.heap.size w).alloc (Nat.le_refl _) _)
  obtain ⟨A, n, c, F⟩ := s
  have h : ¬ n ≤ 100 := h
  dsimp only
  go_enter Try.func4, Try.ntmps4
  go_wp2
  go_ret
  exact ⟨rfl, hL.out⟩
set_option maxRecDepth 100000 in
set_option maxHeartbeats 8000000 in
theorem rings_main (A : Option Addr) (n c : Nat) (F : Nat → Pt) (p : Pt) (w : World) (hP : Pts w A n F) (hnil : A = none → c = 0) (h : n ≤ 100) : Calls Try.prog 4 #[.slice A n c, .agg #[.int .i64 p.x, .int .i64 p.y]] w fun e w' => e = .returned (.bool true) ∧ Below w.heap.size w w' := by
  have hL : Below w.heap.size w (w.alloc (.cells #[.int .i64 p.x, .int .i64 p.y] 23)) := (Below.refl w.heap.size w).alloc (Nat.le_refl _) _
  have b0 : (w.alloc (.cells #[.int .i64 p.x, .int .i64 p.y] 23)).cell? ⟨w.heap.size, 0, none⟩ = some (.int .i64 p.x) := by go_simp
  have b1 : (w.alloc (.cells #[.int .i64 p.x, .int .i64 p.y] 23)).cell? ⟨w.heap.size, 1, none⟩ = some (.int .i64 p.y) := by go_simp
  have k1 := refAll_any A n c F _ (hP.keep hL)
  obtain ⟨al, hal⟩ : ∃ al, al = allB F n := ⟨_, rfl⟩
  rw [← hal] at k1
  have K1 := Lib.hid k1
  have HP := Lib.hid hP
  have HAL := Lib.hid hal
  have HL := Lib.hid hL
  have KA := Lib.hid gAwake_any
  have HNil := Lib.hid hnil
  clear k1 hP hal hL hnil
  go_enter Try.func4, Try.ntmps4
  have hn1 : ¬ (100 : Int) < n := by omega
  cases al
  · have HV := Lib.hid (show insideI F n p = 0 from in_no (by unfold InOk; rw [← HAL.out]; simp))
    have KI := Lib.hid (show ∀ (A' : Option Addr) (c' : Nat) (W : World) (B : Nat), Hid (OwnC 23 W B A' (0 + n) c' (catC (coP F) 0 (coP F))) → Calls Try.prog 23 #[.slice A' n c', .agg #[.int .i64 p.x, .int .i64 p.y]] W fun e w' => e = .returned (.int .i64 0) ∧ Below W.heap.size W w' from fun A' c' W B ho => by
      have hp := OwnP.pts (F := catP F 0 F) (OwnC.congr ho.out fun j _ => cat_co F 0 F j)
      rw [Nat.zero_add] at hp
      have h := inside_any A' n c' (catP F 0 F) p W hp (by omega)
      rwa [show insideI (catP F 0 F) n p = 0 by rw [inside_congr (G := F) fun k _ => by unfold catP; simp]; exact HV.out] at h)
    go_wp2_with fail
    (with_reducible refine (K1.out).mono ?_); rintro _ w1 ⟨rfl, l1⟩
    have L1 := Lib.hid (HL.out.trans (l1.mono (by simp)))
    have c0 := kp' l1 (cell_lt' b0) b0
    have c1 := kp' l1 (cell_lt' b1) b1
    clear l1 b0 b1 K1
    go_wp2_with fail
    have hq : w.heap.size < w1.heap.size := cell_lt' c0
    have SB := Lib.hid (show Below w1.heap.size w1 w1 ∧ (w1.cell? ⟨w.heap.size, 0, none⟩ = some (.int .i64 p.x) ∧ w1.cell? ⟨w.heap.size, 1, none⟩ = some (.int .i64 p.y)) ∧ w.heap.size < w1.heap.size from ⟨Below.refl _ _, ⟨c0, c1⟩, hq⟩)
    have HSrc := Lib.hid (show ∀ W : World, Below w1.heap.size w1 W → Cells2 W A n (coP F) from fun W l => (HP.out.keep (L1.out.trans (l.mono L1.out.size))).cells2)
    have HO := Lib.hid (show ∀ W : World, W.heap.size = w1.heap.size → OwnC 23 (W.alloc (.cells #[] 23)) w1.heap.size (some ⟨w1.heap.size, 0, none⟩) 0 0 (coP F) from fun W e => by have h := OwnC.empty 23 W w1.heap.size (by omega) (coP F); rwa [e] at h)
    clear hq
    go_region_held_law (fun W => Below w1.heap.size w1 W ∧ (W.cell? ⟨w.heap.size, 0, none⟩ = some (.int .i64 p.x) ∧ W.cell? ⟨w.heap.size, 1, none⟩ = some (.int .i64 p.y)) ∧ w.heap.size < w1.heap.size) (repeat (first | with_reducible assumption | with_reducible exact SB.out | with_reducible refine sr_alloc _ ?_ | with_reducible refine sr_drew ?_)) (first
      | (refine step_append_two rfl _ _ 26 23 (.agg #[.int .i64 0, .int .i64 0]) rfl rfl Try.underlying26 ptInfo w1.heap.size (some ⟨w1.heap.size, 0, none⟩) 0 0 (coP F) rfl (HO.out _ (by with_reducible rfl)) A n c (coP F) rfl (HSrc.out _ (((Below.refl _ _).drew).alloc (Nat.le_refl _) _)) (coP_one F) HNil.out (by omega) (by simp) ?_; intro A' c' w' hown hgr _; have hS := sr_keep (W0 := w1) (q := w.heap.size) (p := p) (below_grown_own hgr.out (by simp)) (by repeat (first | with_reducible assumption | with_reducible exact SB.out | with_reducible refine sr_alloc _ ?_ | with_reducible refine sr_drew ?_)))
      | (go_at_call 23; (with_reducible refine (KI.out _ _ _ _ hown).mono ?_); rintro e w' ⟨rfl, l1⟩; have hS := sr_keep (W0 := w1) (q := w.heap.size) (p := p) (l1.mono (by with_reducible exact hS.1.size)) (by with_reducible assumption); clear l1)
      | (go_at_call 19; (with_reducible refine (KA.out _).mono ?_); rintro e w' ⟨rfl, l1⟩; have hS := sr_keep (W0 := w1) (q := w.heap.size) (p := p) (l1.mono (by with_reducible exact hS.1.size)) (by with_reducible assumption); clear l1))
    go_wp2
    go_ret
    exact ⟨rfl, L1.out.trans (hS.1.mono L1.out.size)⟩
  · have k2 := fun W => refMay_any p W
    cases hp : mayB p
    · rw [hp] at k2
      have K2 := Lib.hid k2
      have HV := Lib.hid (show insideI F n p = 0 from in_no (by unfold InOk; rw [hp]; simp))
      have KI := Lib.hid (show ∀ (A' : Option Addr) (c' : Nat) (W : World) (B : Nat), Hid (OwnC 23 W B A' (0 + n) c' (catC (coP F) 0 (coP F))) → Calls Try.prog 23 #[.slice A' n c', .agg #[.int .i64 p.x, .int .i64 p.y]] W fun e w' => e = .returned (.int .i64 0) ∧ Below W.heap.size W w' from fun A' c' W B ho => by
        have hp := OwnP.pts (F := catP F 0 F) (OwnC.congr ho.out fun j _ => cat_co F 0 F j)
        rw [Nat.zero_add] at hp
        have h := inside_any A' n c' (catP F 0 F) p W hp (by omega)
        rwa [show insideI (catP F 0 F) n p = 0 by rw [inside_congr (G := F) fun k _ => by unfold catP; simp]; exact HV.out] at h)
      clear k2 hp
      go_wp2_with fail
      (with_reducible refine (K1.out).mono ?_); rintro _ w1 ⟨rfl, l1⟩
      have L1 := Lib.hid (HL.out.trans (l1.mono (by simp)))
      have c0 := kp' l1 (cell_lt' b0) b0
      have c1 := kp' l1 (cell_lt' b1) b1
      clear l1 b0 b1 K1
      go_wp2_with fail
      (with_reducible refine (K2.out _).mono ?_); rintro _ w2 ⟨rfl, l2⟩
      have L2 := Lib.hid (below2' L1.out l2)
      have d0 := kp' l2 (cell_lt' c0) c0
      have d1 := kp' l2 (cell_lt' c1) c1
      clear l2 c0 c1 K2
      go_wp2_with fail
      have hq : w.heap.size < w2.heap.size := cell_lt' d0
      have SB := Lib.hid (show Below w2.heap.size w2 w2 ∧ (w2.cell? ⟨w.heap.size, 0, none⟩ = some (.int .i64 p.x) ∧ w2.cell? ⟨w.heap.size, 1, none⟩ = some (.int .i64 p.y)) ∧ w.heap.size < w2.heap.size from ⟨Below.refl _ _, ⟨d0, d1⟩, hq⟩)
      have HSrc := Lib.hid (show ∀ W : World, Below w2.heap.size w2 W → Cells2 W A n (coP F) from fun W l => (HP.out.keep (L2.out.trans (l.mono L2.out.size))).cells2)
      have HO := Lib.hid (show ∀ W : World, W.heap.size = w2.heap.size → OwnC 23 (W.alloc (.cells #[] 23)) w2.heap.size (some ⟨w2.heap.size, 0, none⟩) 0 0 (coP F) from fun W e => by have h := OwnC.empty 23 W w2.heap.size (by omega) (coP F); rwa [e] at h)
      clear hq
      go_region_held_law (fun W => Below w2.heap.size w2 W ∧ (W.cell? ⟨w.heap.size, 0, none⟩ = some (.int .i64 p.x) ∧ W.cell? ⟨w.heap.size, 1, none⟩ = some (.int .i64 p.y)) ∧ w.heap.size < w2.heap.size) (repeat (first | with_reducible assumption | with_reducible exact SB.out | with_reducible refine sr_alloc _ ?_ | with_reducible refine sr_drew ?_)) (first
        | (refine step_append_two rfl _ _ 26 23 (.agg #[.int .i64 0, .int .i64 0]) rfl rfl Try.underlying26 ptInfo w2.heap.size (some ⟨w2.heap.size, 0, none⟩) 0 0 (coP F) rfl (HO.out _ (by with_reducible rfl)) A n c (coP F) rfl (HSrc.out _ (((Below.refl _ _).drew).alloc (Nat.le_refl _) _)) (coP_one F) HNil.out (by omega) (by simp) ?_; intro A' c' w' hown hgr _; have hS := sr_keep (W0 := w2) (q := w.heap.size) (p := p) (below_grown_own hgr.out (by simp)) (by repeat (first | with_reducible assumption | with_reducible exact SB.out | with_reducible refine sr_alloc _ ?_ | with_reducible refine sr_drew ?_)))
        | (go_at_call 23; (with_reducible refine (KI.out _ _ _ _ hown).mono ?_); rintro e w' ⟨rfl, l1⟩; have hS := sr_keep (W0 := w2) (q := w.heap.size) (p := p) (l1.mono (by with_reducible exact hS.1.size)) (by with_reducible assumption); clear l1)
        | (go_at_call 19; (with_reducible refine (KA.out _).mono ?_); rintro e w' ⟨rfl, l1⟩; have hS := sr_keep (W0 := w2) (q := w.heap.size) (p := p) (l1.mono (by with_reducible exact hS.1.size)) (by with_reducible assumption); clear l1))
      go_wp2
      go_ret
      exact ⟨rfl, L2.out.trans (hS.1.mono L2.out.size)⟩
    · rw [hp] at k2
      have K2 := Lib.hid k2
      obtain ⟨v, hv⟩ : ∃ v, insideI F n p = v := ⟨_, rfl⟩
      have HV := Lib.hid hv
      have K3 := Lib.hid (show ∀ W : World, Below w.heap.size w W → Calls Try.prog 22 #[.slice A n c, .agg #[.int .i64 p.x, .int .i64 p.y]] W fun e w' => e = .returned (.int .i64 v) ∧ Below W.heap.size W w' from fun W l => by
        have h := refIn_any A n c F p W (HP.out.keep l) ((allB_iff _ _).1 HAL.out.symm) (of_decide_eq_true hp) (by omega)
        rwa [hv] at h)
      have KI := Lib.hid (show ∀ (A' : Option Addr) (c' : Nat) (W : World) (B : Nat), Hid (OwnC 23 W B A' (0 + n) c' (catC (coP F) 0 (coP F))) → Calls Try.prog 23 #[.slice A' n c', .agg #[.int .i64 p.x, .int .i64 p.y]] W fun e w' => e = .returned (.int .i64 v) ∧ Below W.heap.size W w' from fun A' c' W B ho => by
        have hp := OwnP.pts (F := catP F 0 F) (OwnC.congr ho.out fun j _ => cat_co F 0 F j)
        rw [Nat.zero_add] at hp
        have h := inside_any A' n c' (catP F 0 F) p W hp (by omega)
        rwa [show insideI (catP F 0 F) n p = v by rw [inside_congr (G := F) fun k _ => by unfold catP; simp]; exact HV.out] at h)
      clear k2 hp hv
      go_wp2_with fail
      (with_reducible refine (K1.out).mono ?_); rintro _ w1 ⟨rfl, l1⟩
      have L1 := Lib.hid (HL.out.trans (l1.mono (by simp)))
      have c0 := kp' l1 (cell_lt' b0) b0
      have c1 := kp' l1 (cell_lt' b1) b1
      clear l1 b0 b1 K1
      go_wp2_with fail
      (with_reducible refine (K2.out _).mono ?_); rintro _ w2 ⟨rfl, l2⟩
      have L2 := Lib.hid (below2' L1.out l2)
      have d0 := kp' l2 (cell_lt' c0) c0
      have d1 := kp' l2 (cell_lt' c1) c1
      clear l2 c0 c1 K2
      go_wp2_with fail
      (with_reducible refine (K3.out _ L2.out).mono ?_); rintro _ w3 ⟨rfl, l3⟩
      have L3 := Lib.hid (below2' L2.out l3)
      have e0 := kp' l3 (cell_lt' d0) d0
      have e1 := kp' l3 (cell_lt' d1) d1
      clear l3 d0 d1 K3
      go_wp2_with fail
      have hq : w.heap.size < w3.heap.size := cell_lt' e0
      have SB := Lib.hid (show Below w3.heap.size w3 w3 ∧ (w3.cell? ⟨w.heap.size, 0, none⟩ = some (.int .i64 p.x) ∧ w3.cell? ⟨w.heap.size, 1, none⟩ = some (.int .i64 p.y)) ∧ w.heap.size < w3.heap.size from ⟨Below.refl _ _, ⟨e0, e1⟩, hq⟩)
      have HSrc := Lib.hid (show ∀ W : World, Below w3.heap.size w3 W → Cells2 W A n (coP F) from fun W l => (HP.out.keep (L3.out.trans (l.mono L3.out.size))).cells2)
      have HO := Lib.hid (show ∀ W : World, W.heap.size = w3.heap.size → OwnC 23 (W.alloc (.cells #[] 23)) w3.heap.size (some ⟨w3.heap.size, 0, none⟩) 0 0 (coP F) from fun W e => by have h := OwnC.empty 23 W w3.heap.size (by omega) (coP F); rwa [e] at h)
      clear hq
      go_region_held_law (fun W => Below w3.heap.size w3 W ∧ (W.cell? ⟨w.heap.size, 0, none⟩ = some (.int .i64 p.x) ∧ W.cell? ⟨w.heap.size, 1, none⟩ = some (.int .i64 p.y)) ∧ w.heap.size < w3.heap.size) (repeat (first | with_reducible assumption | with_reducible exact SB.out | with_reducible refine sr_alloc _ ?_ | with_reducible refine sr_drew ?_)) (first
        | (refine step_append_two rfl _ _ 26 23 (.agg #[.int .i64 0, .int .i64 0]) rfl rfl Try.underlying26 ptInfo w3.heap.size (some ⟨w3.heap.size, 0, none⟩) 0 0 (coP F) rfl (HO.out _ (by with_reducible rfl)) A n c (coP F) rfl (HSrc.out _ (((Below.refl _ _).drew).alloc (Nat.le_refl _) _)) (coP_one F) HNil.out (by omega) (by simp) ?_; intro A' c' w' hown hgr _; have hS := sr_keep (W0 := w3) (q := w.heap.size) (p := p) (below_grown_own hgr.out (by simp)) (by repeat (first | with_reducible assumption | with_reducible exact SB.out | with_reducible refine sr_alloc _ ?_ | with_reducible refine sr_drew ?_)))
        | (go_at_call 23; (with_reducible refine (KI.out _ _ _ _ hown).mono ?_); rintro e w' ⟨rfl, l1⟩; have hS := sr_keep (W0 := w3) (q := w.heap.size) (p := p) (l1.mono (by with_reducible exact hS.1.size)) (by with_reducible assumption); clear l1)
        | (go_at_call 19; (with_reducible refine (KA.out _).mono ?_); rintro e w' ⟨rfl, l1⟩; have hS := sr_keep (W0 := w3) (q := w.heap.size) (p := p) (l1.mono (by with_reducible exact hS.1.size)) (by with_reducible assumption); clear l1))
      go_wp2
      go_ret
      exact ⟨rfl, L3.out.trans (hS.1.mono L3.out.size)⟩
theorem geomRings_walk (s : Sl) (p : Pt) (w : World) (hs : SlOk w s) : Calls Try.prog 4 #[.slice s.A s.n s.c, .agg #[.int .i64 p.x, .int .i64 p.y]] w fun e w' => e = .returned (.bool true) ∧ Below w.heap.size w w' := by
  by_cases h : s.n ≤ 100
  · exact rings_main s.A s.n s.c s.F p w hs.2.2.1 hs.2.2.2 h
  · exact rings_big s p w h
end Go.Proofs.Ytlkdjpidofnhdaa
