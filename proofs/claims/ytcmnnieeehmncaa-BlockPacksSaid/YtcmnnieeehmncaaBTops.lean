/- the law BlockTops walked. -/
import Derived.Test.YtcmnnieeehmncaaBOf
import Derived.Test.YtcmnnieeehmncaaBRefRight
namespace Go.Proofs.Ytcmnnieeehmncaa
open Go.RowKit Go.Maps
set_option linter.unusedVariables false
set_option linter.unusedSimpArgs false

section
variable {Q P : Nat → Pst} {n : Nat}
theorem rows_same (h : ∀ i, i < n → SameP (Q i) (P i)) {k : Nat} (hk : k ≤ n) : aheadF (rowsF Q) k = aheadF (rowsF P) k := by
  unfold aheadF rowsF
  split
  · rfl
  · exact (h (k - 1) (by omega)).1
theorem right_same (h : ∀ i, i < n → SameP (Q i) (P i)) : rightB n Q = rightB n P := by
  apply decide_eq_decide.2
  have hh : ∀ k, k ≤ n → (RightTo Q k ↔ RightTo P k) := fun k hk => by
    constructor
    · intro z i hi
      obtain ⟨a, b, c, d⟩ := h i (by omega)
      have := z i hi
      rw [rows_same h (by omega), a, b, c, d] at this
      exact this
    · intro z i hi
      obtain ⟨a, b, c, d⟩ := h i (by omega)
      have := z i hi
      rw [← rows_same h (by omega), ← a, ← b, ← c, ← d] at this
      exact this
  exact ⟨fun z => ⟨z.1, (hh n (Nat.le_refl _)).1 z.2⟩, fun z => ⟨z.1, (hh n (Nat.le_refl _)).2 z.2⟩⟩
theorem top_same (h : ∀ i, i < n → SameP (Q i) (P i)) : ∀ k, k ≤ n → topN Q k = topN P k ∧ lowL Q k = lowL P k := by
  intro k
  induction k with
  | zero => intro _; exact ⟨rfl, rfl⟩
  | succ k ih =>
    intro hk
    obtain ⟨a, b⟩ := ih (by omega)
    obtain ⟨_, c, d, _⟩ := h k (by omega)
    exact ⟨by rw [topN, topN, a, d], by rw [lowL, lowL, b, c]⟩
end
theorem right_lens {n : Nat} {P : Nat → Pst} (h : rightB n P = true) : ∀ i, i < n → (P i).len ≤ 1048576 := fun i hi => ((of_decide_eq_true h : RightP n P).2 i hi).2.2.2.2.1
/-- Has one of the first k just so many places, just that length? -/
def hasN (P : Nat → Pst) (t : Nat) (k : Nat) : Bool := decide (∃ i, i < k ∧ (P i).n = t)
def hasL (P : Nat → Pst) (l : Int) (k : Nat) : Bool := decide (∃ i, i < k ∧ (P i).len = l)
theorem hasN_succ (P : Nat → Pst) (t k : Nat) : hasN P t (k + 1) = (hasN P t k || decide ((P k).n = t)) := by
  unfold hasN
  rw [Bool.eq_iff_iff, Bool.or_eq_true, decide_eq_true_eq, decide_eq_true_eq, decide_eq_true_eq]
  constructor
  · rintro ⟨j, hj, h⟩
    by_cases e : j = k
    · subst e; exact .inr h
    · exact .inl ⟨j, by omega, h⟩
  · rintro (⟨j, hj, h⟩ | h)
    · exact ⟨j, by omega, h⟩
    · exact ⟨k, by omega, h⟩
theorem hasL_succ (P : Nat → Pst) (l : Int) (k : Nat) : hasL P l (k + 1) = (hasL P l k || decide ((P k).len = l)) := by
  unfold hasL
  rw [Bool.eq_iff_iff, Bool.or_eq_true, decide_eq_true_eq, decide_eq_true_eq, decide_eq_true_eq]
  constructor
  · rintro ⟨j, hj, h⟩
    by_cases e : j = k
    · subst e; exact .inr h
    · exact .inl ⟨j, by omega, h⟩
  · rintro (⟨j, hj, h⟩ | h)
    · exact ⟨j, by omega, h⟩
    · exact ⟨k, by omega, h⟩
/-- What Top gives. -/
def topsV (n : Nat) (P : Nat → Pst) : Nat × Int := if n = 0 ∨ rightB n P = false then (0, 0) else (topN P n, lowL P n)
theorem top_any {A : Option Addr} {n c : Nat} {P : Nat → Pst} (w : World) (hI : Psts w A n P) : Calls Try.prog 13 #[.slice A n c] w fun e w' => e = .returned (.tuple #[.int .i64 ((topsV n P).1 : Nat), .int .i64 (topsV n P).2]) ∧ Below w.heap.size w w' := by
  unfold topsV
  by_cases h : n = 0 ∨ rightB n P = false
  · rw [if_pos h]; exact top_no w hI h
  · rw [if_neg h]
    exact top_yes w hI (fun z => h (.inl z)) (by cases hr : rightB n P with | true => rfl | false => exact absurd (.inr hr) h)
theorem tops_same {Q P : Nat → Pst} {n : Nat} (h : ∀ i, i < n → SameP (Q i) (P i)) : topsV n Q = topsV n P := by
  unfold topsV
  rw [right_same h, (top_same h n (Nat.le_refl _)).1, (top_same h n (Nat.le_refl _)).2]
/-- of, then Top. -/
theorem of_is {A : Option Addr} {n c : Nat} {P : Nat → Pst} (w : World) (hI : Psts w A n P) (hl : LightP n P) :
    Calls Try.prog 11 #[.slice A n c] w fun e w' => ∃ A' c' Q, e = .returned (.slice A' n c') ∧ Psts w' A' n Q ∧ (∀ i, i < n → SameP (Q i) (P i)) ∧ Below w.heap.size w w' :=
  of_any A n c P w hI hl.1 hl.2
theorem bool_cast (a b : Nat) : ((a : Int) == (b : Int)) = (false || decide (a = b)) := by
  rw [Bool.false_or, Bool.eq_iff_iff, beq_iff_eq, decide_eq_true_eq]; omega
theorem bool_int (a b : Int) : (a == b) = (false || decide (a = b)) := by
  rw [Bool.false_or, Bool.eq_iff_iff, beq_iff_eq, decide_eq_true_eq]
set_option maxRecDepth 100000 in
set_option maxHeartbeats 16000000 in
theorem tops_wrong (A : Option Addr) (n c : Nat) (P : Nat → Pst) (w : World) (hI : Psts w A n P) (hl : LightP n P) (hr : rightB n P = false) :
    Calls Try.prog 8 #[.slice A n c] w fun e w' => e = .returned (.bool true) ∧ Below w.heap.size w w' := by
  have HTV : Hid (topsV n P = (0, 0)) := Lib.hid (if_pos (.inr hr))
  have HRV := Lib.hid hr
  clear hr
  have HL := Lib.hid (light_any A n c P w hI)
  rw [decide_eq_true hl] at HL
  have HI := Lib.hid hI
  have HLi := Lib.hid hl
  have hn := hl.1
  have HAw := Lib.hid awake_any
  have HTp : Hid (∀ (B : Option Addr) (d : Nat) (Q : Nat → Pst) (W : World), Psts W B n Q → (∀ i, i < n → SameP (Q i) (P i)) → Calls Try.prog 13 #[.slice B n d] W fun e w' => e = .returned (.tuple #[.int .i64 0, .int .i64 0]) ∧ Below W.heap.size W w') := Lib.hid fun B d Q W h1 h2 => by
    have h := top_any (c := d) W h1
    rw [tops_same h2, HTV.out] at h
    exact h
  have HRr : Hid (∀ W, Below w.heap.size w W → Calls Try.prog 15 #[.slice A n c] W fun e w' => e = .returned (.bool false) ∧ Below W.heap.size W w') := Lib.hid fun W l => by
    have h := refRight_any A n c P W (hI.below l (Nat.le_refl _))
    rw [HRV.out] at h
    exact h
  clear hI hl
  go_enter Try.func8, Try.ntmps8
  go_wp2_with (first
    | (go_at_call 9; (with_reducible refine HL.out.mono ?_); rintro e w1 ⟨rfl, l1⟩; have L1 := Lib.hid l1; clear l1)
    | (go_at_call 11; (with_reducible refine (of_is w1 (HI.out.below L1.out (Nat.le_refl _)) HLi.out).mono ?_); rintro e w2 ⟨B, d, Q, rfl, hq, hs, l2⟩; have HQ := Lib.hid hq; have HS := Lib.hid hs; have L2 := Lib.hid (L1.out.trans (l2.mono L1.out.size)); clear hq hs l2)
    | (go_at_call 13; (with_reducible refine (HTp.out _ _ _ w2 HQ.out HS.out).mono ?_); rintro e w3 ⟨rfl, l3⟩; have L3 := Lib.hid (L2.out.trans (l3.mono L2.out.size)); clear l3)
    | (go_at_call 15; (with_reducible refine (HRr.out w3 L3.out).mono ?_); rintro e w4 ⟨rfl, l4⟩; have L4 := Lib.hid (L3.out.trans (l4.mono L3.out.size)); clear l4)
    | (go_at_call 16; (with_reducible refine (HAw.out _).mono ?_); rintro e w5 ⟨rfl, l5⟩; have L5 := Lib.hid l5; clear l5))
  go_ret
  exact ⟨rfl, L4.out.trans (L5.out.mono L4.out.size)⟩
set_option maxRecDepth 100000 in
set_option maxHeartbeats 16000000 in
theorem tops_empty (A : Option Addr) (c : Nat) (P : Nat → Pst) (w : World) (hI : Psts w A 0 P) (hl : LightP 0 P) (hr : rightB 0 P = true) :
    Calls Try.prog 8 #[.slice A 0 c] w fun e w' => e = .returned (.bool true) ∧ Below w.heap.size w w' := by
  have HTV : Hid (topsV 0 P = (0, 0)) := Lib.hid (if_pos (.inl rfl))
  have HRV := Lib.hid hr
  clear hr
  have HL := Lib.hid (light_any A 0 c P w hI)
  rw [decide_eq_true hl] at HL
  have HI := Lib.hid hI
  have HLi := Lib.hid hl
  have hn := hl.1
  have HAw := Lib.hid awake_any
  have HTp : Hid (∀ (B : Option Addr) (d : Nat) (Q : Nat → Pst) (W : World), Psts W B 0 Q → (∀ i, i < 0 → SameP (Q i) (P i)) → Calls Try.prog 13 #[.slice B 0 d] W fun e w' => e = .returned (.tuple #[.int .i64 0, .int .i64 0]) ∧ Below W.heap.size W w') := Lib.hid fun B d Q W h1 h2 => by
    have h := top_any (c := d) W h1
    rw [tops_same h2, HTV.out] at h
    exact h
  have HRr : Hid (∀ W, Below w.heap.size w W → Calls Try.prog 15 #[.slice A 0 c] W fun e w' => e = .returned (.bool true) ∧ Below W.heap.size W w') := Lib.hid fun W l => by
    have h := refRight_any A 0 c P W (hI.below l (Nat.le_refl _))
    rw [HRV.out] at h
    exact h
  clear hI hl
  go_enter Try.func8, Try.ntmps8
  go_wp2_with (first
    | (go_at_call 9; (with_reducible refine HL.out.mono ?_); rintro e w1 ⟨rfl, l1⟩; have L1 := Lib.hid l1; clear l1)
    | (go_at_call 11; (with_reducible refine (of_is w1 (HI.out.below L1.out (Nat.le_refl _)) HLi.out).mono ?_); rintro e w2 ⟨B, d, Q, rfl, hq, hs, l2⟩; have HQ := Lib.hid hq; have HS := Lib.hid hs; have L2 := Lib.hid (L1.out.trans (l2.mono L1.out.size)); clear hq hs l2)
    | (go_at_call 13; (with_reducible refine (HTp.out _ _ _ w2 HQ.out HS.out).mono ?_); rintro e w3 ⟨rfl, l3⟩; have L3 := Lib.hid (L2.out.trans (l3.mono L2.out.size)); clear l3)
    | (go_at_call 15; (with_reducible refine (HRr.out w3 L3.out).mono ?_); rintro e w4 ⟨rfl, l4⟩; have L4 := Lib.hid (L3.out.trans (l4.mono L3.out.size)); clear l4)
    | (go_at_call 16; (with_reducible refine (HAw.out _).mono ?_); rintro e w5 ⟨rfl, l5⟩; have L5 := Lib.hid l5; clear l5))
  go_ret
  exact ⟨rfl, L4.out.trans (L5.out.mono L4.out.size)⟩
set_option maxRecDepth 100000 in
set_option maxHeartbeats 16000000 in
theorem tops_yes (A : Option Addr) (n c : Nat) (P : Nat → Pst) (w : World) (hI : Psts w A n P) (hl : LightP n P) (hr : rightB n P = true) (h0 : n ≠ 0) :
    Calls Try.prog 8 #[.slice A n c] w fun e w' => e = .returned (.bool true) ∧ Below w.heap.size w w' := by
  have hlens := right_lens hr
  obtain ⟨t, ht⟩ : ∃ t, t = topN P n := ⟨_, rfl⟩
  obtain ⟨l, hll⟩ : ∃ l, l = lowL P n := ⟨_, rfl⟩
  have HTV : Hid (topsV n P = (t, l)) := Lib.hid (by rw [ht, hll]; exact if_neg (by rintro (z | z); exact h0 z; rw [hr] at z; cases z))
  have HRV := Lib.hid hr
  have HTL : Hid (∀ i, i < n → (P i).n ≤ t) := Lib.hid (by rw [ht]; exact top_le P n)
  have HLL : Hid (∀ i, i < n → l ≤ (P i).len) := Lib.hid (by rw [hll]; exact low_ge P n)
  have HE1 : Hid (hasN P t n = true) := Lib.hid (decide_eq_true (by rw [ht]; exact top_is P n (by omega)))
  have HE2 : Hid (hasL P l n = true) := Lib.hid (decide_eq_true (by rw [hll]; exact low_is P n (by omega) hlens))
  have k0 : ((n : Int) == 0) = false := by simpa using h0
  have k1 : (n == 0) = false := by simpa using h0
  clear hr ht hll hlens
  have HL := Lib.hid (light_any A n c P w hI)
  rw [decide_eq_true hl] at HL
  have HI := Lib.hid hI
  have HLi := Lib.hid hl
  have hn := hl.1
  have HAw := Lib.hid awake_any
  have HTp : Hid (∀ (B : Option Addr) (d : Nat) (Q : Nat → Pst) (W : World), Psts W B n Q → (∀ i, i < n → SameP (Q i) (P i)) → Calls Try.prog 13 #[.slice B n d] W fun e w' => e = .returned (.tuple #[.int .i64 (t : Nat), .int .i64 l]) ∧ Below W.heap.size W w') := Lib.hid fun B d Q W h1 h2 => by
    have h := top_any (c := d) W h1
    rw [tops_same h2, HTV.out] at h
    exact h
  have HRr : Hid (∀ W, Below w.heap.size w W → Calls Try.prog 15 #[.slice A n c] W fun e w' => e = .returned (.bool true) ∧ Below W.heap.size W w') := Lib.hid fun W l => by
    have h := refRight_any A n c P W (hI.below l (Nat.le_refl _))
    rw [HRV.out] at h
    exact h
  clear hI hl
  go_enter Try.func8, Try.ntmps8
  go_wp2_with (first
    | (go_at_call 9; (with_reducible refine HL.out.mono ?_); rintro e w1 ⟨rfl, l1⟩; have L1 := Lib.hid l1; clear l1)
    | (go_at_call 11; (with_reducible refine (of_is w1 (HI.out.below L1.out (Nat.le_refl _)) HLi.out).mono ?_); rintro e w2 ⟨B, d, Q, rfl, hq, hs, l2⟩; have HQ := Lib.hid hq; have HS := Lib.hid hs; have L2 := Lib.hid (L1.out.trans (l2.mono L1.out.size)); clear hq hs l2)
    | (go_at_call 13; (with_reducible refine (HTp.out _ _ _ w2 HQ.out HS.out).mono ?_); rintro e w3 ⟨rfl, l3⟩; have L3 := Lib.hid (L2.out.trans (l3.mono L2.out.size)); clear l3)
    | (go_at_call 15; (with_reducible refine (HRr.out w3 L3.out).mono ?_); rintro e w4 ⟨rfl, l4⟩; have L4 := Lib.hid (L3.out.trans (l4.mono L3.out.size)); clear l4)
    | (go_at_call 16; (with_reducible refine (HAw.out _).mono ?_); rintro e w5 ⟨rfl, l5⟩; have L5 := Lib.hid l5; clear l5))
  have H4 := Lib.hid (HI.out.below L4.out (Nat.le_refl _))
  go_loopw [5, 6, 7] (fun a b i wr => ∃ k : Nat, k ≤ n ∧ i = .int .i64 k ∧ a = .bool (hasN P t k) ∧ b = .bool (hasL P l k) ∧ Below w4.heap.size w4 wr) (fun _ _ i _ => n - (intOf i).toNat)
  case atStart => exact ⟨0, by omega, rfl, by simp [hasN], by simp [hasL], Below.refl _ _⟩
  case round =>
    obtain ⟨k, hk, rfl, rfl, rfl, hnx⟩ := hrel
    have HX := Lib.hid hnx
    by_cases hlt : k < n
    · obtain ⟨b, o, hA, hbl, hc⟩ := H4.out.at_ (by omega)
      subst hA
      have q1 := kcell hnx hbl (hc k hlt).c1
      have q2 := kcell hnx hbl (hc k hlt).c2
      have t1 := HTL.out k hlt
      have t2 := HLL.out k hlt
      have HN1 := Lib.hid (hasN_succ P t k)
      have HN2 := Lib.hid (hasL_succ P l k)
      clear hc hnx
      generalize P k = p at *
      obtain ⟨pr, pl, pA, pn, pc, pF⟩ := p
      dsimp only at *
      have c1 : decide ((t : Int) < pn) = false := decide_eq_false (by omega)
      have c2 : decide (t < pn) = false := decide_eq_false (by omega)
      have c3 : decide (pl < l) = false := decide_eq_false (by omega)
      cases ha : hasN P t k <;> cases hb : hasL P l k
      all_goals
        rw [ha] at HN1
        rw [hb] at HN2
        clear ha hb
        go_wp2_with fail
        go_quiet (fail)
        go_wp2_with fail
      all_goals
        refine ⟨⟨k + 1, by omega, by go_num, ?_, ?_, HX.out.trans (below_drewN _ _ _)⟩, by simp [intOf]; omega⟩
        · rw [HN1.out]; first | (simp; done) | exact congrArg Value.bool (bool_cast _ _) | exact congrArg Value.bool (bool_int _ _)
        · rw [HN2.out]; first | (simp; done) | exact congrArg Value.bool (bool_cast _ _) | exact congrArg Value.bool (bool_int _ _)
    · have e : k = n := by omega
      rw [e, HE1.out, HE2.out]
      clear e hnx
      go_wp2_with (go_at_call 16; (with_reducible refine (HAw.out _).mono ?_); rintro e w5 ⟨rfl, l5⟩; have L5 := Lib.hid l5; clear l5)
      go_ret
      exact ⟨rfl, L4.out.trans ((HX.out.trans (L5.out.mono HX.out.size)).mono L4.out.size)⟩
theorem blockTops_walk (A : Option Addr) (n c : Nat) (P : Nat → Pst) (w : World) (hI : Psts w A n P) (hnil : A = none → c = 0) :
    Calls Try.prog 8 #[.slice A n c] w fun e w' => e = .returned (.bool true) ∧ Below w.heap.size w w' := by
  by_cases hl : LightP n P
  · cases hr : rightB n P with
    | false => exact tops_wrong A n c P w hI hl hr
    | true =>
      by_cases h0 : n = 0
      · subst h0; exact tops_empty A c P w hI hl hr
      · exact tops_yes A n c P w hI hl hr h0
  · have HL := Lib.hid (light_any A n c P w hI)
    rw [decide_eq_false hl] at HL
    clear hI hl hnil
    go_enter Try.func8, Try.ntmps8
    go_wp2_with (go_at_call 9; (with_reducible refine HL.out.mono ?_); rintro e w1 ⟨rfl, l1⟩; have L1 := Lib.hid l1; clear l1)
    go_ret
    exact ⟨rfl, L1.out⟩
end Go.Proofs.Ytcmnnieeehmncaa
