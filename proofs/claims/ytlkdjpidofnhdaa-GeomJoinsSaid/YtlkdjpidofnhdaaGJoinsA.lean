/- GeomJoins: the walk. -/
import Derived.Test.YtlkdjpidofnhdaaGJoin
import Derived.Test.YtlkdjpidofnhdaaGAwake
import Derived.Test.YtlkdjpidofnhdaaGArgs3
import Derived.Test.YtlkdjpidofnhdaaGPts
import Derived.Test.YtlkdjpidofnhdaaGRingM
import Derived.Deep.RegionHeld3
namespace Go.Proofs.Ytlkdjpidofnhdaa
open Go.RowKit
set_option linter.unusedVariables false

def bOk (F : Nat → Pt) (n : Nat) : Bool := decide (0 < n) && allB F n
def bR (F : Nat → Pt) (n : Nat) : Rc := if bOk F n then boundsN F n else zeroR
theorem bounds_any (A : Option Addr) (n c : Nat) (F : Nat → Pt) (w : World) (hP : Pts w A n F) (hnc : n ≤ c) (hcm : c ≤ 9223372036854775807) : Calls Try.prog 24 #[.slice A n c] w fun e w' => e = .returned (.tuple #[vR (bR F n), .bool (bOk F n)]) ∧ Below w.heap.size w w' := by
  unfold bR
  cases h : bOk F n
  · refine bounds_no A n c F w hP ?_
    unfold bOk at h
    rcases Nat.eq_zero_or_pos n with h0 | h0
    · exact .inl h0
    · rw [decide_eq_true h0] at h; exact .inr h
  · unfold bOk at h
    rw [Bool.and_eq_true, decide_eq_true_eq] at h
    exact bounds_yes A n c F w hP hnc hcm h.1 h.2
theorem join_assoc (a b c : Rc) : joinR (joinR a b) c = joinR a (joinR b c) := by unfold joinR; congr 1 <;> (dsimp only; omega)
theorem join_comm (a b : Rc) : joinR a b = joinR b a := by unfold joinR; congr 1 <;> omega
theorem boundsN_congr {F G : Nat → Pt} : ∀ {n : Nat}, (∀ k, k < n → F k = G k) → boundsN F n = boundsN G n
  | 0, _ => rfl
  | 1, h => by rw [bounds_one, bounds_one, h 0 (by omega)]
  | n + 2, h => by
    rw [bounds_next F (n + 1) (by omega), bounds_next G (n + 1) (by omega), boundsN_congr (n := n + 1) fun k hk => h k (by omega), h (n + 1) (by omega)]
theorem bounds_cat (F : Nat → Pt) (n : Nat) (G : Nat → Pt) (hn : 0 < n) : ∀ m, 0 < m → boundsN (catP F n G) (n + m) = joinR (boundsN F n) (boundsN G m)
  | 1, _ => by
    rw [bounds_next _ n hn, bounds_one, boundsN_congr (G := F) fun k hk => by unfold catP; rw [if_pos hk]]
    unfold catP
    rw [if_neg (by omega), Nat.sub_self]
  | m + 2, _ => by
    rw [show n + (m + 2) = n + (m + 1) + 1 by omega, bounds_next _ (n + (m + 1)) (by omega), bounds_cat F n G hn (m + 1) (by omega), bounds_next G (m + 1) (by omega), ← join_assoc]
    congr 2
    unfold catP
    rw [if_neg (by omega), Nat.add_sub_cancel_left]
theorem allB_cat (F : Nat → Pt) (n : Nat) (G : Nat → Pt) : ∀ m, allB (catP F n G) (n + m) = (allB F n && allB G m)
  | 0 => by
    rw [Nat.add_zero, allB_congr (G := F) fun k hk => by unfold catP; rw [if_pos hk]]
    show _ = (allB F n && true)
    rw [Bool.and_true]
  | m + 1 => by
    show (allB (catP F n G) (n + m) && mayB (catP F n G (n + m))) = (allB F n && (allB G m && mayB (G m)))
    rw [allB_cat F n G m, Bool.and_assoc, show catP F n G (n + m) = G m by unfold catP; rw [if_neg (by omega), Nat.add_sub_cancel_left]]
theorem bounds_in (F : Nat → Pt) : ∀ n, ∀ i, i < n → (boundsN F n).x0 ≤ (F i).x ∧ (F i).x ≤ (boundsN F n).x1 ∧ (boundsN F n).y0 ≤ (F i).y ∧ (F i).y ≤ (boundsN F n).y1
  | 0, i, h => absurd h (by omega)
  | 1, i, h => by obtain rfl : i = 0 := by omega
                  rw [bounds_one]; unfold justR; dsimp only; omega
  | n + 2, i, h => by
    rw [bounds_next F (n + 1) (by omega)]
    unfold joinR justR
    dsimp only
    by_cases hi : i < n + 1
    · have := bounds_in F (n + 1) i hi
      omega
    · obtain rfl : i = n + 1 := by omega
      omega
theorem bounds_holds {F : Nat → Pt} {n i : Nat} (hF : MayN F n) (hi : i < n) : ovB (boundsN F n) (justR (F i)) = true := by
  have h := bounds_in F n i hi
  refine decide_eq_true ⟨bounds_may (by omega) hF, just_may (hF i hi), ?_⟩
  unfold OvP justR
  dsimp only
  omega
set_option maxRecDepth 100000 in
set_option maxHeartbeats 1600000 in
theorem joins_big (s t : Sl) (w : World) (h : ¬ (s.n ≤ 60 ∧ t.n ≤ 60)) : Calls Try.prog 9 #[.slice s.A s.n s.c, .slice t.A t.n t.c] w fun e w' => e = .returned (.bool true) ∧ Below w.heap.size w w' := by
  obtain ⟨A, n, c, F⟩ := s
  obtain ⟨B, m, d, G⟩ := t
  have h : ¬ (n ≤ 60 ∧ m ≤ 60) := h
  dsimp only
  by_cases h1 : n ≤ 60
  · have h2 : ¬ m ≤ 60 := fun e => h ⟨h1, e⟩
    clear h
    go_enter Try.func9, Try.ntmps9
    go_wp2
    go_ret
    exact ⟨rfl, Below.refl _ _⟩
  · clear h
    go_enter Try.func9, Try.ntmps9
    go_wp2
    go_ret
    exact ⟨rfl, Below.refl _ _⟩

set_option maxRecDepth 100000 in
set_option maxHeartbeats 8000000 in
theorem joins_tf0 (A1 A2 : Option Addr) (n m c1 c2 : Nat) (F G : Nat → Pt) (w : World) (h1 : n ≤ 60) (h2 : m ≤ 60) (r s b : Rc)
    (HP1 : Hid (Pts w A1 n F)) (HP2 : Hid (Pts w A2 m G)) (HN1 : Hid (A1 = none → c1 = 0)) (HN2 : Hid (A2 = none → c2 = 0))
    (K1 : Hid (∀ W : World, Below w.heap.size w W → Calls Try.prog 24 #[.slice A1 n c1] W fun e w' => e = .returned (.tuple #[vR r, .bool true]) ∧ Below W.heap.size W w'))
    (K2 : Hid (∀ W : World, Below w.heap.size w W → Calls Try.prog 24 #[.slice A2 m c2] W fun e w' => e = .returned (.tuple #[vR s, .bool false]) ∧ Below W.heap.size W w'))
    (K3 : Hid (∀ (A : Option Addr) (c : Nat) (W : World), OwnP W w.heap.size A (n + m) c (catP F n G) → Calls Try.prog 24 #[.slice A (n + m) c] W fun e w' => e = .returned (.tuple #[vR b, .bool true]) ∧ Below W.heap.size W w')) (hm : ((m : Int) == 0) = true) :
    Calls Try.prog 9 #[.slice A1 n c1, .slice A2 m c2] w fun e w' => e = .returned (.bool true) ∧ Below w.heap.size w w' := by
  have KA := Lib.hid gAwake_any
  have hs1 : ¬ (60 : Int) < n := by omega
  have hs2 : ¬ (60 : Int) < m := by omega
  have O0 := Lib.hid (OwnC.empty 23 w w.heap.size (Nat.le_refl _) (coP F))
  have L0 := Lib.hid (show Below w.heap.size w (w.alloc (.cells #[] 23)) from (Below.refl _ _).alloc (Nat.le_refl _) _)
  have X1 := Lib.hid ((HP1.out.keep L0.out).cells2)
  go_enter Try.func9, Try.ntmps9
  go_wp2_with (at_builtin; with_reducible refine wpList_append_two (w.alloc (.cells #[] 23)) rfl _ _ 26 23 (.agg #[.int .i64 0, .int .i64 0]) rfl rfl Try.underlying26 ptInfo w.heap.size _ 0 0 _ rfl O0.out A1 n c1 _ rfl X1.out (coP_one F) HN1.out (by omega) (by simp) ?d3)
  case d3 =>
    intro A' c' w1 o1 g1 _
    have o2 : OwnC 23 w1 w.heap.size A' n c' (coP F) := by
      have h := o1.congr fun j _ => cat_co F 0 F j
      try rw [Nat.zero_add] at h
      exact h.congr fun j _ => by rw [show catP F 0 F = F by funext i; unfold catP; simp]
    have l1 : Below w.heap.size w w1 := L0.out.trans ((Below.refl w.heap.size _).grown g1 (by simp) fun k e => by injection e with e; exact Nat.le_of_eq e)
    have O1 := Lib.hid o2
    have L1 := Lib.hid l1
    have X2 := Lib.hid ((HP2.out.keep l1).cells2)
    clear o1 g1 o2 l1 O0 L0 X1
    have hz1 : w.heap.size ≤ w1.heap.size := L1.out.size
    have e0 : 0 + n = n := Nat.zero_add n
    go_wp2_with (at_builtin; with_reducible refine wpList_append_two w1 rfl _ _ 26 23 (.agg #[.int .i64 0, .int .i64 0]) rfl rfl Try.underlying26 ptInfo w.heap.size A' n c' _ rfl O1.out A2 m c2 _ rfl X2.out (coP_one G) HN2.out (by omega) hz1 ?d3)
    case d3 =>
      intro A3 c3 w2 o1 g1 _
      have O2 := Lib.hid (o1.congr fun j _ => cat_co F n G j)
      have L2 := Lib.hid (L1.out.trans ((Below.refl w.heap.size w1).grown g1 hz1 fun k e => (OwnC.base_le O1.out e).1))
      clear o1 g1 O1 L1 X2 hz1
      go_wp2_with fail
      (with_reducible refine (K1.out _ L2.out).mono ?_); rintro _ w3 ⟨rfl, l3⟩
      have O3 := Lib.hid (O2.out.below l3)
      have L3 := Lib.hid (below2' L2.out l3)
      clear l3 O2 L2
      have l4 := (Below.refl w3.heap.size w3).alloc (Nat.le_refl _) (.cells #[.int .i64 r.x0, .int .i64 r.y0, .int .i64 r.x1, .int .i64 r.y1] 36)
      have q0 := RcAt.new w3 r
      have O4 := Lib.hid (O3.out.below l4)
      have L4 := Lib.hid (below2' L3.out l4)
      have Q4 := Lib.hid q0
      clear l4 O3 L3 q0
      go_wp2_with fail
      (with_reducible refine (K2.out _ L4.out).mono ?_); rintro _ w5 ⟨rfl, l5⟩
      have O5 := Lib.hid (O4.out.below l5)
      have L5 := Lib.hid (below2' L4.out l5)
      have Q5 := Lib.hid (Q4.out.keep l5 Q4.out.lt)
      clear l5 O4 L4 Q4
      have l6 := (Below.refl w5.heap.size w5).alloc (Nat.le_refl _) (.cells #[.int .i64 s.x0, .int .i64 s.y0, .int .i64 s.x1, .int .i64 s.y1] 36)
      have q0 := RcAt.new w5 s
      have O6 := Lib.hid (O5.out.below l6)
      have L6 := Lib.hid (below2' L5.out l6)
      have Q6 := Lib.hid (And.intro (Q5.out.keep l6 Q5.out.lt) q0)
      clear l6 O5 L5 Q5 q0
      go_wp2_with fail
      (with_reducible refine (K3.out _ _ _ O6.out).mono ?_); rintro _ w7 ⟨rfl, l7⟩
      have O7 := Lib.hid (O6.out.below l7)
      have L7 := Lib.hid (below2' L6.out l7)
      have Q7 := Lib.hid (And.intro (Q6.out.1.keep l7 Q6.out.1.lt) (Q6.out.2.keep l7 Q6.out.2.lt))
      clear l7 O6 L6 Q6
      have l8 := (Below.refl w7.heap.size w7).alloc (Nat.le_refl _) (.cells #[.int .i64 b.x0, .int .i64 b.y0, .int .i64 b.x1, .int .i64 b.y1] 36)
      have q0 := RcAt.new w7 b
      have O8 := Lib.hid (O7.out.below l8)
      have L8 := Lib.hid (below2' L7.out l8)
      have Q8 := Lib.hid (And.intro (And.intro (Q7.out.1.keep l8 Q7.out.1.lt) (Q7.out.2.keep l8 Q7.out.2.lt)) q0)
      clear l8 O7 L7 Q7 q0
      go_wp2_with fail
      (with_reducible refine (KA.out _).mono ?_); rintro _ w9 ⟨rfl, l9⟩
      have L9 := Lib.hid (below2' L8.out l9)
      clear l9
      go_wp2
      go_ret
      exact ⟨rfl, L9.out⟩
set_option maxRecDepth 100000 in
set_option maxHeartbeats 8000000 in
theorem joins_tf1 (A1 A2 : Option Addr) (n m c1 c2 : Nat) (F G : Nat → Pt) (w : World) (h1 : n ≤ 60) (h2 : m ≤ 60) (r s b : Rc)
    (HP1 : Hid (Pts w A1 n F)) (HP2 : Hid (Pts w A2 m G)) (HN1 : Hid (A1 = none → c1 = 0)) (HN2 : Hid (A2 = none → c2 = 0))
    (K1 : Hid (∀ W : World, Below w.heap.size w W → Calls Try.prog 24 #[.slice A1 n c1] W fun e w' => e = .returned (.tuple #[vR r, .bool true]) ∧ Below W.heap.size W w'))
    (K2 : Hid (∀ W : World, Below w.heap.size w W → Calls Try.prog 24 #[.slice A2 m c2] W fun e w' => e = .returned (.tuple #[vR s, .bool false]) ∧ Below W.heap.size W w'))
    (K3 : Hid (∀ (A : Option Addr) (c : Nat) (W : World), OwnP W w.heap.size A (n + m) c (catP F n G) → Calls Try.prog 24 #[.slice A (n + m) c] W fun e w' => e = .returned (.tuple #[vR b, .bool false]) ∧ Below W.heap.size W w')) (hm : ((m : Int) == 0) = false) :
    Calls Try.prog 9 #[.slice A1 n c1, .slice A2 m c2] w fun e w' => e = .returned (.bool true) ∧ Below w.heap.size w w' := by
  have KA := Lib.hid gAwake_any
  have hs1 : ¬ (60 : Int) < n := by omega
  have hs2 : ¬ (60 : Int) < m := by omega
  have O0 := Lib.hid (OwnC.empty 23 w w.heap.size (Nat.le_refl _) (coP F))
  have L0 := Lib.hid (show Below w.heap.size w (w.alloc (.cells #[] 23)) from (Below.refl _ _).alloc (Nat.le_refl _) _)
  have X1 := Lib.hid ((HP1.out.keep L0.out).cells2)
  go_enter Try.func9, Try.ntmps9
  go_wp2_with (at_builtin; with_reducible refine wpList_append_two (w.alloc (.cells #[] 23)) rfl _ _ 26 23 (.agg #[.int .i64 0, .int .i64 0]) rfl rfl Try.underlying26 ptInfo w.heap.size _ 0 0 _ rfl O0.out A1 n c1 _ rfl X1.out (coP_one F) HN1.out (by omega) (by simp) ?d3)
  case d3 =>
    intro A' c' w1 o1 g1 _
    have o2 : OwnC 23 w1 w.heap.size A' n c' (coP F) := by
      have h := o1.congr fun j _ => cat_co F 0 F j
      try rw [Nat.zero_add] at h
      exact h.congr fun j _ => by rw [show catP F 0 F = F by funext i; unfold catP; simp]
    have l1 : Below w.heap.size w w1 := L0.out.trans ((Below.refl w.heap.size _).grown g1 (by simp) fun k e => by injection e with e; exact Nat.le_of_eq e)
    have O1 := Lib.hid o2
    have L1 := Lib.hid l1
    have X2 := Lib.hid ((HP2.out.keep l1).cells2)
    clear o1 g1 o2 l1 O0 L0 X1
    have hz1 : w.heap.size ≤ w1.heap.size := L1.out.size
    have e0 : 0 + n = n := Nat.zero_add n
    go_wp2_with (at_builtin; with_reducible refine wpList_append_two w1 rfl _ _ 26 23 (.agg #[.int .i64 0, .int .i64 0]) rfl rfl Try.underlying26 ptInfo w.heap.size A' n c' _ rfl O1.out A2 m c2 _ rfl X2.out (coP_one G) HN2.out (by omega) hz1 ?d3)
    case d3 =>
      intro A3 c3 w2 o1 g1 _
      have O2 := Lib.hid (o1.congr fun j _ => cat_co F n G j)
      have L2 := Lib.hid (L1.out.trans ((Below.refl w.heap.size w1).grown g1 hz1 fun k e => (OwnC.base_le O1.out e).1))
      clear o1 g1 O1 L1 X2 hz1
      go_wp2_with fail
      (with_reducible refine (K1.out _ L2.out).mono ?_); rintro _ w3 ⟨rfl, l3⟩
      have O3 := Lib.hid (O2.out.below l3)
      have L3 := Lib.hid (below2' L2.out l3)
      clear l3 O2 L2
      have l4 := (Below.refl w3.heap.size w3).alloc (Nat.le_refl _) (.cells #[.int .i64 r.x0, .int .i64 r.y0, .int .i64 r.x1, .int .i64 r.y1] 36)
      have q0 := RcAt.new w3 r
      have O4 := Lib.hid (O3.out.below l4)
      have L4 := Lib.hid (below2' L3.out l4)
      have Q4 := Lib.hid q0
      clear l4 O3 L3 q0
      go_wp2_with fail
      (with_reducible refine (K2.out _ L4.out).mono ?_); rintro _ w5 ⟨rfl, l5⟩
      have O5 := Lib.hid (O4.out.below l5)
      have L5 := Lib.hid (below2' L4.out l5)
      have Q5 := Lib.hid (Q4.out.keep l5 Q4.out.lt)
      clear l5 O4 L4 Q4
      have l6 := (Below.refl w5.heap.size w5).alloc (Nat.le_refl _) (.cells #[.int .i64 s.x0, .int .i64 s.y0, .int .i64 s.x1, .int .i64 s.y1] 36)
      have q0 := RcAt.new w5 s
      have O6 := Lib.hid (O5.out.below l6)
      have L6 := Lib.hid (below2' L5.out l6)
      have Q6 := Lib.hid (And.intro (Q5.out.keep l6 Q5.out.lt) q0)
      clear l6 O5 L5 Q5 q0
      go_wp2_with fail
      (with_reducible refine (K3.out _ _ _ O6.out).mono ?_); rintro _ w7 ⟨rfl, l7⟩
      have O7 := Lib.hid (O6.out.below l7)
      have L7 := Lib.hid (below2' L6.out l7)
      have Q7 := Lib.hid (And.intro (Q6.out.1.keep l7 Q6.out.1.lt) (Q6.out.2.keep l7 Q6.out.2.lt))
      clear l7 O6 L6 Q6
      have l8 := (Below.refl w7.heap.size w7).alloc (Nat.le_refl _) (.cells #[.int .i64 b.x0, .int .i64 b.y0, .int .i64 b.x1, .int .i64 b.y1] 36)
      have q0 := RcAt.new w7 b
      have O8 := Lib.hid (O7.out.below l8)
      have L8 := Lib.hid (below2' L7.out l8)
      have Q8 := Lib.hid (And.intro (And.intro (Q7.out.1.keep l8 Q7.out.1.lt) (Q7.out.2.keep l8 Q7.out.2.lt)) q0)
      clear l8 O7 L7 Q7 q0
      go_wp2_with fail
      (with_reducible refine (KA.out _).mono ?_); rintro _ w9 ⟨rfl, l9⟩
      have L9 := Lib.hid (below2' L8.out l9)
      clear l9
      go_wp2
      go_ret
      exact ⟨rfl, L9.out⟩
set_option maxRecDepth 100000 in
set_option maxHeartbeats 8000000 in
theorem joins_ft0 (A1 A2 : Option Addr) (n m c1 c2 : Nat) (F G : Nat → Pt) (w : World) (h1 : n ≤ 60) (h2 : m ≤ 60) (r s b : Rc)
    (HP1 : Hid (Pts w A1 n F)) (HP2 : Hid (Pts w A2 m G)) (HN1 : Hid (A1 = none → c1 = 0)) (HN2 : Hid (A2 = none → c2 = 0))
    (K1 : Hid (∀ W : World, Below w.heap.size w W → Calls Try.prog 24 #[.slice A1 n c1] W fun e w' => e = .returned (.tuple #[vR r, .bool false]) ∧ Below W.heap.size W w'))
    (K2 : Hid (∀ W : World, Below w.heap.size w W → Calls Try.prog 24 #[.slice A2 m c2] W fun e w' => e = .returned (.tuple #[vR s, .bool true]) ∧ Below W.heap.size W w'))
    (K3 : Hid (∀ (A : Option Addr) (c : Nat) (W : World), OwnP W w.heap.size A (n + m) c (catP F n G) → Calls Try.prog 24 #[.slice A (n + m) c] W fun e w' => e = .returned (.tuple #[vR b, .bool true]) ∧ Below W.heap.size W w')) (hn : ((n : Int) == 0) = true) :
    Calls Try.prog 9 #[.slice A1 n c1, .slice A2 m c2] w fun e w' => e = .returned (.bool true) ∧ Below w.heap.size w w' := by
  have KA := Lib.hid gAwake_any
  have hs1 : ¬ (60 : Int) < n := by omega
  have hs2 : ¬ (60 : Int) < m := by omega
  have O0 := Lib.hid (OwnC.empty 23 w w.heap.size (Nat.le_refl _) (coP F))
  have L0 := Lib.hid (show Below w.heap.size w (w.alloc (.cells #[] 23)) from (Below.refl _ _).alloc (Nat.le_refl _) _)
  have X1 := Lib.hid ((HP1.out.keep L0.out).cells2)
  go_enter Try.func9, Try.ntmps9
  go_wp2_with (at_builtin; with_reducible refine wpList_append_two (w.alloc (.cells #[] 23)) rfl _ _ 26 23 (.agg #[.int .i64 0, .int .i64 0]) rfl rfl Try.underlying26 ptInfo w.heap.size _ 0 0 _ rfl O0.out A1 n c1 _ rfl X1.out (coP_one F) HN1.out (by omega) (by simp) ?d3)
  case d3 =>
    intro A' c' w1 o1 g1 _
    have o2 : OwnC 23 w1 w.heap.size A' n c' (coP F) := by
      have h := o1.congr fun j _ => cat_co F 0 F j
      try rw [Nat.zero_add] at h
      exact h.congr fun j _ => by rw [show catP F 0 F = F by funext i; unfold catP; simp]
    have l1 : Below w.heap.size w w1 := L0.out.trans ((Below.refl w.heap.size _).grown g1 (by simp) fun k e => by injection e with e; exact Nat.le_of_eq e)
    have O1 := Lib.hid o2
    have L1 := Lib.hid l1
    have X2 := Lib.hid ((HP2.out.keep l1).cells2)
    clear o1 g1 o2 l1 O0 L0 X1
    have hz1 : w.heap.size ≤ w1.heap.size := L1.out.size
    have e0 : 0 + n = n := Nat.zero_add n
    go_wp2_with (at_builtin; with_reducible refine wpList_append_two w1 rfl _ _ 26 23 (.agg #[.int .i64 0, .int .i64 0]) rfl rfl Try.underlying26 ptInfo w.heap.size A' n c' _ rfl O1.out A2 m c2 _ rfl X2.out (coP_one G) HN2.out (by omega) hz1 ?d3)
    case d3 =>
      intro A3 c3 w2 o1 g1 _
      have O2 := Lib.hid (o1.congr fun j _ => cat_co F n G j)
      have L2 := Lib.hid (L1.out.trans ((Below.refl w.heap.size w1).grown g1 hz1 fun k e => (OwnC.base_le O1.out e).1))
      clear o1 g1 O1 L1 X2 hz1
      go_wp2_with fail
      (with_reducible refine (K1.out _ L2.out).mono ?_); rintro _ w3 ⟨rfl, l3⟩
      have O3 := Lib.hid (O2.out.below l3)
      have L3 := Lib.hid (below2' L2.out l3)
      clear l3 O2 L2
      have l4 := (Below.refl w3.heap.size w3).alloc (Nat.le_refl _) (.cells #[.int .i64 r.x0, .int .i64 r.y0, .int .i64 r.x1, .int .i64 r.y1] 36)
      have q0 := RcAt.new w3 r
      have O4 := Lib.hid (O3.out.below l4)
      have L4 := Lib.hid (below2' L3.out l4)
      have Q4 := Lib.hid q0
      clear l4 O3 L3 q0
      go_wp2_with fail
      (with_reducible refine (K2.out _ L4.out).mono ?_); rintro _ w5 ⟨rfl, l5⟩
      have O5 := Lib.hid (O4.out.below l5)
      have L5 := Lib.hid (below2' L4.out l5)
      have Q5 := Lib.hid (Q4.out.keep l5 Q4.out.lt)
      clear l5 O4 L4 Q4
      have l6 := (Below.refl w5.heap.size w5).alloc (Nat.le_refl _) (.cells #[.int .i64 s.x0, .int .i64 s.y0, .int .i64 s.x1, .int .i64 s.y1] 36)
      have q0 := RcAt.new w5 s
      have O6 := Lib.hid (O5.out.below l6)
      have L6 := Lib.hid (below2' L5.out l6)
      have Q6 := Lib.hid (And.intro (Q5.out.keep l6 Q5.out.lt) q0)
      clear l6 O5 L5 Q5 q0
      go_wp2_with fail
      (with_reducible refine (K3.out _ _ _ O6.out).mono ?_); rintro _ w7 ⟨rfl, l7⟩
      have O7 := Lib.hid (O6.out.below l7)
      have L7 := Lib.hid (below2' L6.out l7)
      have Q7 := Lib.hid (And.intro (Q6.out.1.keep l7 Q6.out.1.lt) (Q6.out.2.keep l7 Q6.out.2.lt))
      clear l7 O6 L6 Q6
      have l8 := (Below.refl w7.heap.size w7).alloc (Nat.le_refl _) (.cells #[.int .i64 b.x0, .int .i64 b.y0, .int .i64 b.x1, .int .i64 b.y1] 36)
      have q0 := RcAt.new w7 b
      have O8 := Lib.hid (O7.out.below l8)
      have L8 := Lib.hid (below2' L7.out l8)
      have Q8 := Lib.hid (And.intro (And.intro (Q7.out.1.keep l8 Q7.out.1.lt) (Q7.out.2.keep l8 Q7.out.2.lt)) q0)
      clear l8 O7 L7 Q7 q0
      go_wp2_with fail
      (with_reducible refine (KA.out _).mono ?_); rintro _ w9 ⟨rfl, l9⟩
      have L9 := Lib.hid (below2' L8.out l9)
      clear l9
      go_wp2
      go_ret
      exact ⟨rfl, L9.out⟩
set_option maxRecDepth 100000 in
set_option maxHeartbeats 8000000 in
theorem joins_ft1 (A1 A2 : Option Addr) (n m c1 c2 : Nat) (F G : Nat → Pt) (w : World) (h1 : n ≤ 60) (h2 : m ≤ 60) (r s b : Rc)
    (HP1 : Hid (Pts w A1 n F)) (HP2 : Hid (Pts w A2 m G)) (HN1 : Hid (A1 = none → c1 = 0)) (HN2 : Hid (A2 = none → c2 = 0))
    (K1 : Hid (∀ W : World, Below w.heap.size w W → Calls Try.prog 24 #[.slice A1 n c1] W fun e w' => e = .returned (.tuple #[vR r, .bool false]) ∧ Below W.heap.size W w'))
    (K2 : Hid (∀ W : World, Below w.heap.size w W → Calls Try.prog 24 #[.slice A2 m c2] W fun e w' => e = .returned (.tuple #[vR s, .bool true]) ∧ Below W.heap.size W w'))
    (K3 : Hid (∀ (A : Option Addr) (c : Nat) (W : World), OwnP W w.heap.size A (n + m) c (catP F n G) → Calls Try.prog 24 #[.slice A (n + m) c] W fun e w' => e = .returned (.tuple #[vR b, .bool false]) ∧ Below W.heap.size W w')) (hn : ((n : Int) == 0) = false) :
    Calls Try.prog 9 #[.slice A1 n c1, .slice A2 m c2] w fun e w' => e = .returned (.bool true) ∧ Below w.heap.size w w' := by
  have KA := Lib.hid gAwake_any
  have hs1 : ¬ (60 : Int) < n := by omega
  have hs2 : ¬ (60 : Int) < m := by omega
  have O0 := Lib.hid (OwnC.empty 23 w w.heap.size (Nat.le_refl _) (coP F))
  have L0 := Lib.hid (show Below w.heap.size w (w.alloc (.cells #[] 23)) from (Below.refl _ _).alloc (Nat.le_refl _) _)
  have X1 := Lib.hid ((HP1.out.keep L0.out).cells2)
  go_enter Try.func9, Try.ntmps9
  go_wp2_with (at_builtin; with_reducible refine wpList_append_two (w.alloc (.cells #[] 23)) rfl _ _ 26 23 (.agg #[.int .i64 0, .int .i64 0]) rfl rfl Try.underlying26 ptInfo w.heap.size _ 0 0 _ rfl O0.out A1 n c1 _ rfl X1.out (coP_one F) HN1.out (by omega) (by simp) ?d3)
  case d3 =>
    intro A' c' w1 o1 g1 _
    have o2 : OwnC 23 w1 w.heap.size A' n c' (coP F) := by
      have h := o1.congr fun j _ => cat_co F 0 F j
      try rw [Nat.zero_add] at h
      exact h.congr fun j _ => by rw [show catP F 0 F = F by funext i; unfold catP; simp]
    have l1 : Below w.heap.size w w1 := L0.out.trans ((Below.refl w.heap.size _).grown g1 (by simp) fun k e => by injection e with e; exact Nat.le_of_eq e)
    have O1 := Lib.hid o2
    have L1 := Lib.hid l1
    have X2 := Lib.hid ((HP2.out.keep l1).cells2)
    clear o1 g1 o2 l1 O0 L0 X1
    have hz1 : w.heap.size ≤ w1.heap.size := L1.out.size
    have e0 : 0 + n = n := Nat.zero_add n
    go_wp2_with (at_builtin; with_reducible refine wpList_append_two w1 rfl _ _ 26 23 (.agg #[.int .i64 0, .int .i64 0]) rfl rfl Try.underlying26 ptInfo w.heap.size A' n c' _ rfl O1.out A2 m c2 _ rfl X2.out (coP_one G) HN2.out (by omega) hz1 ?d3)
    case d3 =>
      intro A3 c3 w2 o1 g1 _
      have O2 := Lib.hid (o1.congr fun j _ => cat_co F n G j)
      have L2 := Lib.hid (L1.out.trans ((Below.refl w.heap.size w1).grown g1 hz1 fun k e => (OwnC.base_le O1.out e).1))
      clear o1 g1 O1 L1 X2 hz1
      go_wp2_with fail
      (with_reducible refine (K1.out _ L2.out).mono ?_); rintro _ w3 ⟨rfl, l3⟩
      have O3 := Lib.hid (O2.out.below l3)
      have L3 := Lib.hid (below2' L2.out l3)
      clear l3 O2 L2
      have l4 := (Below.refl w3.heap.size w3).alloc (Nat.le_refl _) (.cells #[.int .i64 r.x0, .int .i64 r.y0, .int .i64 r.x1, .int .i64 r.y1] 36)
      have q0 := RcAt.new w3 r
      have O4 := Lib.hid (O3.out.below l4)
      have L4 := Lib.hid (below2' L3.out l4)
      have Q4 := Lib.hid q0
      clear l4 O3 L3 q0
      go_wp2_with fail
      (with_reducible refine (K2.out _ L4.out).mono ?_); rintro _ w5 ⟨rfl, l5⟩
      have O5 := Lib.hid (O4.out.below l5)
      have L5 := Lib.hid (below2' L4.out l5)
      have Q5 := Lib.hid (Q4.out.keep l5 Q4.out.lt)
      clear l5 O4 L4 Q4
      have l6 := (Below.refl w5.heap.size w5).alloc (Nat.le_refl _) (.cells #[.int .i64 s.x0, .int .i64 s.y0, .int .i64 s.x1, .int .i64 s.y1] 36)
      have q0 := RcAt.new w5 s
      have O6 := Lib.hid (O5.out.below l6)
      have L6 := Lib.hid (below2' L5.out l6)
      have Q6 := Lib.hid (And.intro (Q5.out.keep l6 Q5.out.lt) q0)
      clear l6 O5 L5 Q5 q0
      go_wp2_with fail
      (with_reducible refine (K3.out _ _ _ O6.out).mono ?_); rintro _ w7 ⟨rfl, l7⟩
      have O7 := Lib.hid (O6.out.below l7)
      have L7 := Lib.hid (below2' L6.out l7)
      have Q7 := Lib.hid (And.intro (Q6.out.1.keep l7 Q6.out.1.lt) (Q6.out.2.keep l7 Q6.out.2.lt))
      clear l7 O6 L6 Q6
      have l8 := (Below.refl w7.heap.size w7).alloc (Nat.le_refl _) (.cells #[.int .i64 b.x0, .int .i64 b.y0, .int .i64 b.x1, .int .i64 b.y1] 36)
      have q0 := RcAt.new w7 b
      have O8 := Lib.hid (O7.out.below l8)
      have L8 := Lib.hid (below2' L7.out l8)
      have Q8 := Lib.hid (And.intro (And.intro (Q7.out.1.keep l8 Q7.out.1.lt) (Q7.out.2.keep l8 Q7.out.2.lt)) q0)
      clear l8 O7 L7 Q7 q0
      go_wp2_with fail
      (with_reducible refine (KA.out _).mono ?_); rintro _ w9 ⟨rfl, l9⟩
      have L9 := Lib.hid (below2' L8.out l9)
      clear l9
      go_wp2
      go_ret
      exact ⟨rfl, L9.out⟩
set_option maxRecDepth 100000 in
set_option maxHeartbeats 8000000 in
theorem joins_ff (A1 A2 : Option Addr) (n m c1 c2 : Nat) (F G : Nat → Pt) (w : World) (h1 : n ≤ 60) (h2 : m ≤ 60) (r s b : Rc)
    (HP1 : Hid (Pts w A1 n F)) (HP2 : Hid (Pts w A2 m G)) (HN1 : Hid (A1 = none → c1 = 0)) (HN2 : Hid (A2 = none → c2 = 0))
    (K1 : Hid (∀ W : World, Below w.heap.size w W → Calls Try.prog 24 #[.slice A1 n c1] W fun e w' => e = .returned (.tuple #[vR r, .bool false]) ∧ Below W.heap.size W w'))
    (K2 : Hid (∀ W : World, Below w.heap.size w W → Calls Try.prog 24 #[.slice A2 m c2] W fun e w' => e = .returned (.tuple #[vR s, .bool false]) ∧ Below W.heap.size W w'))
    (K3 : Hid (∀ (A : Option Addr) (c : Nat) (W : World), OwnP W w.heap.size A (n + m) c (catP F n G) → Calls Try.prog 24 #[.slice A (n + m) c] W fun e w' => e = .returned (.tuple #[vR b, .bool false]) ∧ Below W.heap.size W w')) :
    Calls Try.prog 9 #[.slice A1 n c1, .slice A2 m c2] w fun e w' => e = .returned (.bool true) ∧ Below w.heap.size w w' := by
  have KA := Lib.hid gAwake_any
  have hs1 : ¬ (60 : Int) < n := by omega
  have hs2 : ¬ (60 : Int) < m := by omega
  have O0 := Lib.hid (OwnC.empty 23 w w.heap.size (Nat.le_refl _) (coP F))
  have L0 := Lib.hid (show Below w.heap.size w (w.alloc (.cells #[] 23)) from (Below.refl _ _).alloc (Nat.le_refl _) _)
  have X1 := Lib.hid ((HP1.out.keep L0.out).cells2)
  go_enter Try.func9, Try.ntmps9
  go_wp2_with (at_builtin; with_reducible refine wpList_append_two (w.alloc (.cells #[] 23)) rfl _ _ 26 23 (.agg #[.int .i64 0, .int .i64 0]) rfl rfl Try.underlying26 ptInfo w.heap.size _ 0 0 _ rfl O0.out A1 n c1 _ rfl X1.out (coP_one F) HN1.out (by omega) (by simp) ?d3)
  case d3 =>
    intro A' c' w1 o1 g1 _
    have o2 : OwnC 23 w1 w.heap.size A' n c' (coP F) := by
      have h := o1.congr fun j _ => cat_co F 0 F j
      try rw [Nat.zero_add] at h
      exact h.congr fun j _ => by rw [show catP F 0 F = F by funext i; unfold catP; simp]
    have l1 : Below w.heap.size w w1 := L0.out.trans ((Below.refl w.heap.size _).grown g1 (by simp) fun k e => by injection e with e; exact Nat.le_of_eq e)
    have O1 := Lib.hid o2
    have L1 := Lib.hid l1
    have X2 := Lib.hid ((HP2.out.keep l1).cells2)
    clear o1 g1 o2 l1 O0 L0 X1
    have hz1 : w.heap.size ≤ w1.heap.size := L1.out.size
    have e0 : 0 + n = n := Nat.zero_add n
    go_wp2_with (at_builtin; with_reducible refine wpList_append_two w1 rfl _ _ 26 23 (.agg #[.int .i64 0, .int .i64 0]) rfl rfl Try.underlying26 ptInfo w.heap.size A' n c' _ rfl O1.out A2 m c2 _ rfl X2.out (coP_one G) HN2.out (by omega) hz1 ?d3)
    case d3 =>
      intro A3 c3 w2 o1 g1 _
      have O2 := Lib.hid (o1.congr fun j _ => cat_co F n G j)
      have L2 := Lib.hid (L1.out.trans ((Below.refl w.heap.size w1).grown g1 hz1 fun k e => (OwnC.base_le O1.out e).1))
      clear o1 g1 O1 L1 X2 hz1
      go_wp2_with fail
      (with_reducible refine (K1.out _ L2.out).mono ?_); rintro _ w3 ⟨rfl, l3⟩
      have O3 := Lib.hid (O2.out.below l3)
      have L3 := Lib.hid (below2' L2.out l3)
      clear l3 O2 L2
      have l4 := (Below.refl w3.heap.size w3).alloc (Nat.le_refl _) (.cells #[.int .i64 r.x0, .int .i64 r.y0, .int .i64 r.x1, .int .i64 r.y1] 36)
      have q0 := RcAt.new w3 r
      have O4 := Lib.hid (O3.out.below l4)
      have L4 := Lib.hid (below2' L3.out l4)
      have Q4 := Lib.hid q0
      clear l4 O3 L3 q0
      go_wp2_with fail
      (with_reducible refine (K2.out _ L4.out).mono ?_); rintro _ w5 ⟨rfl, l5⟩
      have O5 := Lib.hid (O4.out.below l5)
      have L5 := Lib.hid (below2' L4.out l5)
      have Q5 := Lib.hid (Q4.out.keep l5 Q4.out.lt)
      clear l5 O4 L4 Q4
      have l6 := (Below.refl w5.heap.size w5).alloc (Nat.le_refl _) (.cells #[.int .i64 s.x0, .int .i64 s.y0, .int .i64 s.x1, .int .i64 s.y1] 36)
      have q0 := RcAt.new w5 s
      have O6 := Lib.hid (O5.out.below l6)
      have L6 := Lib.hid (below2' L5.out l6)
      have Q6 := Lib.hid (And.intro (Q5.out.keep l6 Q5.out.lt) q0)
      clear l6 O5 L5 Q5 q0
      go_wp2_with fail
      (with_reducible refine (K3.out _ _ _ O6.out).mono ?_); rintro _ w7 ⟨rfl, l7⟩
      have O7 := Lib.hid (O6.out.below l7)
      have L7 := Lib.hid (below2' L6.out l7)
      have Q7 := Lib.hid (And.intro (Q6.out.1.keep l7 Q6.out.1.lt) (Q6.out.2.keep l7 Q6.out.2.lt))
      clear l7 O6 L6 Q6
      have l8 := (Below.refl w7.heap.size w7).alloc (Nat.le_refl _) (.cells #[.int .i64 b.x0, .int .i64 b.y0, .int .i64 b.x1, .int .i64 b.y1] 36)
      have q0 := RcAt.new w7 b
      have O8 := Lib.hid (O7.out.below l8)
      have L8 := Lib.hid (below2' L7.out l8)
      have Q8 := Lib.hid (And.intro (And.intro (Q7.out.1.keep l8 Q7.out.1.lt) (Q7.out.2.keep l8 Q7.out.2.lt)) q0)
      clear l8 O7 L7 Q7 q0
      go_wp2_with fail
      (with_reducible refine (KA.out _).mono ?_); rintro _ w9 ⟨rfl, l9⟩
      have L9 := Lib.hid (below2' L8.out l9)
      clear l9
      go_wp2
      go_ret
      exact ⟨rfl, L9.out⟩
end Go.Proofs.Ytlkdjpidofnhdaa
