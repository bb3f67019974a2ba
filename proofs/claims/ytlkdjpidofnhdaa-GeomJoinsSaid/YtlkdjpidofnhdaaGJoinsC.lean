/- GeomJoins: whole. -/
import Derived.Test.YtlkdjpidofnhdaaGJoinsB
namespace Go.Proofs.Ytlkdjpidofnhdaa
open Go.RowKit
set_option linter.unusedVariables false

theorem ok_zero (F : Nat → Pt) {n : Nat} (h : n = 0) : bOk F n = false := by subst h; rfl
theorem ok_cat (F : Nat → Pt) (n : Nat) (G : Nat → Pt) (m : Nat) : bOk (catP F n G) (n + m) = (decide (0 < n + m) && (allB F n && allB G m)) := by unfold bOk; rw [allB_cat]
theorem geomJoins_walk (s t : Sl) (w : World) (hs : SlOk w s) (ht : SlOk w t) : Calls Try.prog 9 #[.slice s.A s.n s.c, .slice t.A t.n t.c] w fun e w' => e = .returned (.bool true) ∧ Below w.heap.size w w' := by
  by_cases h : s.n ≤ 60 ∧ t.n ≤ 60
  · obtain ⟨A1, n, c1, F⟩ := s
    obtain ⟨A2, m, c2, G⟩ := t
    obtain ⟨s1, s2, s3, s4⟩ := hs
    obtain ⟨t1, t2, t3, t4⟩ := ht
    dsimp only at h s1 s2 s3 s4 t1 t2 t3 t4 ⊢
    have k1 : ∀ W : World, Below w.heap.size w W → Calls Try.prog 24 #[.slice A1 n c1] W fun e w' => e = .returned (.tuple #[vR (bR F n), .bool (bOk F n)]) ∧ Below W.heap.size W w' := fun W l => bounds_any A1 n c1 F W (s3.keep l) s1 s2
    have k2 : ∀ W : World, Below w.heap.size w W → Calls Try.prog 24 #[.slice A2 m c2] W fun e w' => e = .returned (.tuple #[vR (bR G m), .bool (bOk G m)]) ∧ Below W.heap.size W w' := fun W l => bounds_any A2 m c2 G W (t3.keep l) t1 t2
    have k3 : ∀ (A : Option Addr) (c : Nat) (W : World), OwnP W w.heap.size A (n + m) c (catP F n G) → Calls Try.prog 24 #[.slice A (n + m) c] W fun e w' => e = .returned (.tuple #[vR (bR (catP F n G) (n + m)), .bool (bOk (catP F n G) (n + m))]) ∧ Below W.heap.size W w' := fun A c W ho => bounds_any A (n + m) c (catP F n G) W (OwnP.pts ho) ho.2.1 ho.2.2.1
    have hz := ok_cat F n G m
    cases hx : bOk F n
    · cases hy : bOk G m
      · have hz2 : bOk (catP F n G) (n + m) = false := by
          rw [hz]
          unfold bOk at hx hy
          rcases Nat.eq_zero_or_pos n with h0 | h0
          · rcases Nat.eq_zero_or_pos m with h1 | h1
            · subst h0 h1; rfl
            · rw [decide_eq_true h1, Bool.true_and] at hy; rw [hy]; simp
          · rw [decide_eq_true h0, Bool.true_and] at hx; rw [hx]; simp
        rw [hx] at k1
        rw [hy] at k2
        rw [hz2] at k3
        exact joins_ff A1 A2 n m c1 c2 F G w h.1 h.2 _ _ _ (Lib.hid s3) (Lib.hid t3) (Lib.hid s4) (Lib.hid t4) (Lib.hid k1) (Lib.hid k2) (Lib.hid k3)
      · rw [hx] at k1
        rw [hy] at k2
        unfold bOk at hx hy
        rw [Bool.and_eq_true, decide_eq_true_eq] at hy
        rcases Nat.eq_zero_or_pos n with h0 | h0
        · have hz2 : bOk (catP F n G) (n + m) = true := by rw [hz, decide_eq_true (by omega), hy.2]; subst h0; rfl
          rw [hz2] at k3
          exact joins_ft0 A1 A2 n m c1 c2 F G w h.1 h.2 _ _ _ (Lib.hid s3) (Lib.hid t3) (Lib.hid s4) (Lib.hid t4) (Lib.hid k1) (Lib.hid k2) (Lib.hid k3) (by subst h0; rfl)
        · have hz2 : bOk (catP F n G) (n + m) = false := by rw [decide_eq_true h0, Bool.true_and] at hx; rw [hz, hx]; simp
          rw [hz2] at k3
          exact joins_ft1 A1 A2 n m c1 c2 F G w h.1 h.2 _ _ _ (Lib.hid s3) (Lib.hid t3) (Lib.hid s4) (Lib.hid t4) (Lib.hid k1) (Lib.hid k2) (Lib.hid k3) (by simp; omega)
    · cases hy : bOk G m
      · rw [hx] at k1
        rw [hy] at k2
        unfold bOk at hx hy
        rw [Bool.and_eq_true, decide_eq_true_eq] at hx
        rcases Nat.eq_zero_or_pos m with h0 | h0
        · have hz2 : bOk (catP F n G) (n + m) = true := by rw [hz, decide_eq_true (by omega), hx.2]; subst h0; rfl
          rw [hz2] at k3
          exact joins_tf0 A1 A2 n m c1 c2 F G w h.1 h.2 _ _ _ (Lib.hid s3) (Lib.hid t3) (Lib.hid s4) (Lib.hid t4) (Lib.hid k1) (Lib.hid k2) (Lib.hid k3) (by subst h0; rfl)
        · have hz2 : bOk (catP F n G) (n + m) = false := by rw [decide_eq_true h0, Bool.true_and] at hy; rw [hz, hy]; simp
          rw [hz2] at k3
          exact joins_tf1 A1 A2 n m c1 c2 F G w h.1 h.2 _ _ _ (Lib.hid s3) (Lib.hid t3) (Lib.hid s4) (Lib.hid t4) (Lib.hid k1) (Lib.hid k2) (Lib.hid k3) (by simp; omega)
      · have ex : bR F n = boundsN F n := by unfold bR; rw [hx]; rfl
        have ey : bR G m = boundsN G m := by unfold bR; rw [hy]; rfl
        rw [hx, ex] at k1
        rw [hy, ey] at k2
        unfold bOk at hx hy
        rw [Bool.and_eq_true, decide_eq_true_eq] at hx hy
        have hz2 : bOk (catP F n G) (n + m) = true := by rw [hz, hx.2, hy.2, decide_eq_true (by omega)]; rfl
        have ez : bR (catP F n G) (n + m) = boundsN (catP F n G) (n + m) := by unfold bR; rw [hz2]; rfl
        rw [hz2, ez] at k3
        have hF := (allB_iff F n).1 hx.2
        have hG := (allB_iff G m).1 hy.2
        have hC : MayN (catP F n G) (n + m) := (allB_iff _ _).1 (by rw [allB_cat, hx.2, hy.2]; rfl)
        have ej : joinG (boundsN F n) (boundsN G m) = boundsN (catP F n G) (n + m) := by
          unfold joinG
          rw [show mayRB (boundsN F n) = true from decide_eq_true (bounds_may hx.1 hF), show mayRB (boundsN G m) = true from decide_eq_true (bounds_may hy.1 hG), bounds_cat F n G hx.1 m hy.1]
          rfl
        have ej2 : joinG (boundsN G m) (boundsN F n) = boundsN (catP F n G) (n + m) := by
          unfold joinG
          rw [show mayRB (boundsN F n) = true from decide_eq_true (bounds_may hx.1 hF), show mayRB (boundsN G m) = true from decide_eq_true (bounds_may hy.1 hG), bounds_cat F n G hx.1 m hy.1, join_comm (boundsN F n)]
          rfl
        refine joins_tt A1 A2 n m c1 c2 F G w h.1 h.2 _ _ _ (Lib.hid s3) (Lib.hid t3) (Lib.hid s4) (Lib.hid t4) (Lib.hid k1) (Lib.hid k2) (Lib.hid k3) (Lib.hid fun W => ?_) (Lib.hid fun W => ?_) (Lib.hid fun k hk W => ?_) (by omega)
        · have h := joinG_any (boundsN F n) (boundsN G m) W
          rwa [ej] at h
        · have h := joinG_any (boundsN G m) (boundsN F n) W
          rwa [ej2] at h
        · have h := holds_any (boundsN (catP F n G) (n + m)) (catP F n G k) W
          rwa [bounds_holds hC hk] at h
  · exact joins_big s t w h
end Go.Proofs.Ytlkdjpidofnhdaa
