/- the law BlockPacks walked. -/
import Derived.Test.YtcmnnieeehmncaaBTops
import Derived.Test.YtcmnnieeehmncaaBRefPack
import Derived.Test.YtcmnnieeehmncaaBAwake
import Derived.Deep.RegionHeld3
namespace Go.Proofs.Ytcmnnieeehmncaa
open Go.RowKit Go.Maps
set_option linter.unusedVariables false
set_option linter.unusedSimpArgs false

theorem pack_same {Q P : Nat → Pst} {n : Nat} (h : ∀ i, i < n → SameP (Q i) (P i)) : packL n Q = packL n P := by
  have hh : ∀ k, k ≤ n → allL Q k = allL P k := by
    intro k
    induction k with
    | zero => intro _; rfl
    | succ k ih =>
      intro hk
      obtain ⟨a, b, c, d⟩ := h k (by omega)
      rw [allL, allL, ih (by omega), rows_same h (by omega)]
      unfold oneL headL
      rw [a, b, c, d]
  unfold packL
  rw [hh n (Nat.le_refl _)]
theorem ats_256 (F : Nat → Int) : ∀ k, ∀ x ∈ atsL F k, x < 256 := by
  intro k
  induction k with
  | zero => intro x hx; cases hx
  | succ k ih =>
    intro x hx
    rw [atsL, List.mem_append] at hx
    exact hx.elim (ih x) (num_lt _ x)
theorem all_256 (P : Nat → Pst) : ∀ k, ∀ x ∈ allL P k, x < 256 := by
  intro k
  induction k with
  | zero => intro x hx; cases hx
  | succ k ih =>
    intro x hx
    rw [allL, List.mem_append] at hx
    refine hx.elim (ih x) fun hx => ?_
    unfold oneL headL at hx
    simp only [List.mem_append] at hx
    obtain ((h | h) | h) | h := hx
    · exact num_lt _ x h
    · exact num_lt _ x h
    · exact num_lt _ x h
    · exact ats_256 _ _ x h
theorem pack_256 (n : Nat) (P : Nat → Pst) : ∀ x ∈ packL n P, x < 256 := by
  intro x hx
  unfold packL at hx
  rw [List.mem_append] at hx
  exact hx.elim (num_lt _ x) (all_256 P n x)
/-- The bytes of any row, and the answer's number. -/
def packX (n : Nat) (P : Nat → Pst) : List Nat := if rightB n P then packL n P else []
def packE (n : Nat) (P : Nat → Pst) : Int := if rightB n P then 0 else 5
theorem packX_256 (n : Nat) (P : Nat → Pst) : ∀ x ∈ packX n P, x < 256 := by
  unfold packX
  split
  · exact pack_256 n P
  · intro x hx; cases hx
theorem own_nil (w : World) (base : Nat) : OwnU w base (.slice none 0 0) [] := ⟨by simp, .inl ⟨rfl, rfl⟩⟩
theorem packX_any {A : Option Addr} {n c : Nat} {P : Nat → Pst} (w : World) (hI : Psts w A n P) : Calls Try.prog 10 #[.slice A n c] w fun e w' => ∃ A1 c1, e = .returned (.tuple #[.slice A1 (packX n P).length c1, .int .i64 (packE n P)]) ∧ OwnU w' w.heap.size (.slice A1 (packX n P).length c1) (packX n P) ∧ Below w.heap.size w w' := by
  unfold packX packE
  cases h : rightB n P with
  | false =>
    refine (pack_no h w hI).mono ?_
    rintro e w' ⟨rfl, l⟩
    exact ⟨none, 0, rfl, own_nil _ _, l⟩
  | true =>
    refine (pack_yes h w hI).mono ?_
    rintro e w' ⟨v, rfl, ho, l⟩
    obtain ⟨A1, c1, rfl⟩ := own_isU ho
    exact ⟨A1, c1, rfl, ho, l⟩
theorem refPackX_any {A : Option Addr} {n c : Nat} {P : Nat → Pst} (w : World) (hI : Psts w A n P) : Calls Try.prog 12 #[.slice A n c] w fun e w' => ∃ A1 c1, e = .returned (.tuple #[.slice A1 (packX n P).length c1, .int .i64 (packE n P)]) ∧ OwnU w' w.heap.size (.slice A1 (packX n P).length c1) (packX n P) ∧ Below w.heap.size w w' := by
  unfold packX packE
  cases h : rightB n P with
  | false =>
    refine (refPack_no h w hI).mono ?_
    rintro e w' ⟨rfl, l⟩
    exact ⟨none, 0, rfl, own_nil _ _, l⟩
  | true =>
    refine (refPack_yes h w hI).mono ?_
    rintro e w' ⟨v, rfl, ho, l⟩
    obtain ⟨A1, c1, rfl⟩ := own_isU ho
    exact ⟨A1, c1, rfl, ho, l⟩
theorem packX_same {Q P : Nat → Pst} {n : Nat} (h : ∀ i, i < n → SameP (Q i) (P i)) : packX n Q = packX n P ∧ packE n Q = packE n P := by
  unfold packX packE
  rw [right_same h, pack_same h]
  exact ⟨rfl, rfl⟩
/-- The least length of the first k, as the law's loop holds it. -/
def loL (P : Nat → Pst) (k : Nat) : Int := if k = 0 then 0 else lowL P k
theorem loL_zero (P : Nat → Pst) : loL P 0 = 0 := rfl
theorem loL_one (P : Nat → Pst) (h : (P 0).len ≤ 1048576) : loL P (0 + 1) = (P 0).len := by
  show lowL P 1 = _
  rw [lowL, lowL]; omega
theorem loL_lt (P : Nat → Pst) (k : Nat) (h : (P (k + 1)).len < loL P (k + 1)) : loL P (k + 1 + 1) = (P (k + 1)).len := by
  have h' : (P (k + 1)).len < lowL P (k + 1) := h
  show lowL P (k + 1 + 1) = _
  rw [lowL]; omega
theorem loL_ge (P : Nat → Pst) (k : Nat) (h : ¬ (P (k + 1)).len < loL P (k + 1)) : loL P (k + 1 + 1) = loL P (k + 1) := by
  have h' : ¬ (P (k + 1)).len < lowL P (k + 1) := h
  show lowL P (k + 1 + 1) = lowL P (k + 1)
  rw [lowL]; omega
theorem topsV_lo {n : Nat} {P : Nat → Pst} (h : rightB n P = true) : topsV n P = (topN P n, loL P n) := by
  unfold topsV loL
  rw [h]
  by_cases h0 : n = 0
  · subst h0; rfl
  · rw [if_neg (by simp [h0]), if_neg h0]
set_option maxRecDepth 100000 in
set_option maxHeartbeats 16000000 in
theorem packs_no (A : Option Addr) (n c : Nat) (P : Nat → Pst) (w : World) (hI : Psts w A n P) (hl : LightP n P) (hr : rightB n P = false) :
    Calls Try.prog 3 #[.slice A n c] w fun e w' => e = .returned (.bool true) ∧ Below w.heap.size w w' := by
  have HTV : Hid (topsV n P = (0, 0)) := Lib.hid (if_pos (.inr hr))
  have HEV : Hid (packE n P = 5) := Lib.hid (by unfold packE; rw [hr]; rfl)
  have HRV := Lib.hid hr
  clear hr
  obtain ⟨xs, hxs⟩ : ∃ xs, xs = packX n P := ⟨_, rfl⟩
  have H256 : Hid (∀ x ∈ xs, x < 256) := Lib.hid (by rw [hxs]; exact packX_256 n P)
  have HL := Lib.hid (light_any A n c P w hI)
  rw [decide_eq_true hl] at HL
  have HI := Lib.hid hI
  have HLi := Lib.hid hl
  have hn := hl.1
  have HAw := Lib.hid awake_any
  have HTp : Hid (∀ (B : Option Addr) (d : Nat) (Q : Nat → Pst) (W : World), Psts W B n Q → (∀ i, i < n → SameP (Q i) (P i)) → Calls Try.prog 13 #[.slice B n d] W fun e w' => e = .returned (.tuple #[.int .i64 0, .int .i64 0]) ∧ Below W.heap.size W w') := Lib.hid fun B d Q W h1 h2 => by
    have h := top_any (c := d) W h1
    rw [tops_same h2, HTV.out] at h
    exact h
  have HPk : Hid (∀ (B : Option Addr) (d : Nat) (Q : Nat → Pst) (W : World), Psts W B n Q → (∀ i, i < n → SameP (Q i) (P i)) → Calls Try.prog 10 #[.slice B n d] W fun e w' => ∃ A1 c1, e = .returned (.tuple #[.slice A1 xs.length c1, .int .i64 5]) ∧ OwnU w' W.heap.size (.slice A1 xs.length c1) xs ∧ Below W.heap.size W w') := Lib.hid fun B d Q W h1 h2 => by
    have h := packX_any (c := d) W h1
    rw [(packX_same h2).1, (packX_same h2).2, ← hxs, HEV.out] at h
    exact h
  have HRp : Hid (∀ W, Below w.heap.size w W → Calls Try.prog 12 #[.slice A n c] W fun e w' => ∃ A1 c1, e = .returned (.tuple #[.slice A1 xs.length c1, .int .i64 5]) ∧ OwnU w' W.heap.size (.slice A1 xs.length c1) xs ∧ Below W.heap.size W w') := Lib.hid fun W l => by
    have h := refPackX_any (c := c) W (hI.below l (Nat.le_refl _))
    rw [← hxs, HEV.out] at h
    exact h
  have HRi : Hid (∀ (B : Option Addr) (d : Nat) (Q : Nat → Pst) (W : World), Psts W B n Q → (∀ i, i < n → SameP (Q i) (P i)) → Calls Try.prog 14 #[.slice B n d] W fun e w' => e = .returned (.bool false) ∧ Below W.heap.size W w') := Lib.hid fun B d Q W h1 h2 => right_is ((right_same h2).trans HRV.out) W h1
  have HRr : Hid (∀ W, Below w.heap.size w W → Calls Try.prog 15 #[.slice A n c] W fun e w' => e = .returned (.bool false) ∧ Below W.heap.size W w') := Lib.hid fun W l => by
    have h := refRight_any A n c P W (hI.below l (Nat.le_refl _))
    rw [HRV.out] at h
    exact h
  clear hI hl hxs
  generalize xs.length = m at *
  go_enter Try.func3, Try.ntmps3
  go_wp2_with (first
    | (go_at_call 9; (with_reducible refine HL.out.mono ?_); rintro e w1 ⟨rfl, l1⟩; have L := Lib.hid l1; clear l1)
    | (go_at_call 11; (with_reducible refine (of_is _ (HI.out.below L.out (Nat.le_refl _)) HLi.out).mono ?_); rintro e w2 ⟨B, d, Q, rfl, hq, hs, l2⟩; have HQ := Lib.hid hq; have HS := Lib.hid hs; (try have O1 := Lib.hid (own_belowU O1.out l2)); (try have O2 := Lib.hid (own_belowU O2.out l2)); have L := Lib.hid (L.out.trans (l2.mono L.out.size)); clear hq hs l2)
    | (go_at_call 10; (with_reducible refine (HPk.out _ _ _ _ HQ.out HS.out).mono ?_); rintro e w3 ⟨A1, c1, rfl, o1, l3⟩; have O1 := Lib.hid o1; have L := Lib.hid (L.out.trans (l3.mono L.out.size)); clear o1 l3)
    | (go_at_call 12; (with_reducible refine (HRp.out _ L.out).mono ?_); rintro e w4 ⟨A2, c2, rfl, o2, l4⟩; have O2 := Lib.hid o2; have O1 := Lib.hid (own_belowU O1.out l4); have L := Lib.hid (L.out.trans (l4.mono L.out.size)); clear o2 l4)
    | (go_at_call 13; (with_reducible refine (HTp.out _ _ _ _ HQ.out HS.out).mono ?_); rintro e w5 ⟨rfl, l5⟩; have O1 := Lib.hid (own_belowU O1.out l5); have O2 := Lib.hid (own_belowU O2.out l5); have L := Lib.hid (L.out.trans (l5.mono L.out.size)); clear l5))
  go_loopw [9, 10, 11] (fun a b i wr => i = .int .i64 0 ∧ a = .int .i64 0 ∧ b = .int .i64 0 ∧ Below w5.heap.size w5 wr) (fun _ _ _ _ => 0)
  case atStart => exact ⟨rfl, rfl, rfl, Below.refl _ _⟩
  case round =>
    obtain ⟨rfl, rfl, rfl, hnx⟩ := hrel
    have HX := Lib.hid hnx
    by_cases h0 : 0 < n
    · have hcv1 := conv_own (own_belowU O1.out HX.out) H256.out
      have hcv2 := conv_own (own_belowU O2.out HX.out) H256.out
      have L := Lib.hid (L.out.trans (HX.out.mono L.out.size))
      clear hnx
      generalize strU xs = sx at *
      go_wp2_with (first
        | (go_at_call 11; (with_reducible refine (of_is _ (HI.out.below L.out (Nat.le_refl _)) HLi.out).mono ?_); rintro e w2 ⟨B, d, Q, rfl, hq, hs, l2⟩; have HQ := Lib.hid hq; have HS := Lib.hid hs; have L := Lib.hid (L.out.trans (l2.mono L.out.size)); clear hq hs l2)
        | (go_at_call 14; (with_reducible refine (HRi.out _ _ _ _ HQ.out HS.out).mono ?_); rintro e w6 ⟨rfl, l6⟩; have L := Lib.hid (L.out.trans (l6.mono L.out.size)); clear l6)
        | (go_at_call 15; (with_reducible refine (HRr.out _ L.out).mono ?_); rintro e w7 ⟨rfl, l7⟩; have L := Lib.hid (L.out.trans (l7.mono L.out.size)); clear l7)
        | (go_at_call 16; (with_reducible refine (HAw.out _).mono ?_); rintro e w8 ⟨rfl, l8⟩; have L := Lib.hid (L.out.trans (l8.mono L.out.size)); clear l8))
      go_ret
      exact ⟨rfl, L.out⟩
    · obtain rfl : n = 0 := by omega
      have hcv1 := conv_own (own_belowU O1.out HX.out) H256.out
      have hcv2 := conv_own (own_belowU O2.out HX.out) H256.out
      have L := Lib.hid (L.out.trans (HX.out.mono L.out.size))
      clear hnx
      generalize strU xs = sx at *
      go_wp2_with (first
        | (go_at_call 11; (with_reducible refine (of_is _ (HI.out.below L.out (Nat.le_refl _)) HLi.out).mono ?_); rintro e w2 ⟨B, d, Q, rfl, hq, hs, l2⟩; have HQ := Lib.hid hq; have HS := Lib.hid hs; have L := Lib.hid (L.out.trans (l2.mono L.out.size)); clear hq hs l2)
        | (go_at_call 14; (with_reducible refine (HRi.out _ _ _ _ HQ.out HS.out).mono ?_); rintro e w6 ⟨rfl, l6⟩; have L := Lib.hid (L.out.trans (l6.mono L.out.size)); clear l6)
        | (go_at_call 15; (with_reducible refine (HRr.out _ L.out).mono ?_); rintro e w7 ⟨rfl, l7⟩; have L := Lib.hid (L.out.trans (l7.mono L.out.size)); clear l7)
        | (go_at_call 16; (with_reducible refine (HAw.out _).mono ?_); rintro e w8 ⟨rfl, l8⟩; have L := Lib.hid (L.out.trans (l8.mono L.out.size)); clear l8))
      go_ret
      exact ⟨rfl, L.out⟩
set_option maxRecDepth 100000 in
set_option maxHeartbeats 16000000 in
theorem packs_yes (A : Option Addr) (n c : Nat) (P : Nat → Pst) (w : World) (hI : Psts w A n P) (hl : LightP n P) (hr : rightB n P = true) :
    Calls Try.prog 3 #[.slice A n c] w fun e w' => e = .returned (.bool true) ∧ Below w.heap.size w w' := by
  obtain ⟨t, ht⟩ : ∃ t, t = topN P n := ⟨_, rfl⟩
  obtain ⟨l, hll⟩ : ∃ l, l = loL P n := ⟨_, rfl⟩
  have HTV : Hid (topsV n P = (t, l)) := Lib.hid (by rw [ht, hll]; exact topsV_lo hr)
  have HT1 : Hid (topN P n = t) := Lib.hid ht.symm
  have HT2 : Hid (loL P n = l) := Lib.hid hll.symm
  have HLN := Lib.hid (right_lens hr)
  have HEV : Hid (packE n P = 0) := Lib.hid (by unfold packE; rw [hr]; rfl)
  have HRV := Lib.hid hr
  clear hr ht hll
  obtain ⟨xs, hxs⟩ : ∃ xs, xs = packX n P := ⟨_, rfl⟩
  have H256 : Hid (∀ x ∈ xs, x < 256) := Lib.hid (by rw [hxs]; exact packX_256 n P)
  have HL := Lib.hid (light_any A n c P w hI)
  rw [decide_eq_true hl] at HL
  have HI := Lib.hid hI
  have HLi := Lib.hid hl
  have hn := hl.1
  have HAw := Lib.hid awake_any
  have HTp : Hid (∀ (B : Option Addr) (d : Nat) (Q : Nat → Pst) (W : World), Psts W B n Q → (∀ i, i < n → SameP (Q i) (P i)) → Calls Try.prog 13 #[.slice B n d] W fun e w' => e = .returned (.tuple #[.int .i64 (t : Nat), .int .i64 l]) ∧ Below W.heap.size W w') := Lib.hid fun B d Q W h1 h2 => by
    have h := top_any (c := d) W h1
    rw [tops_same h2, HTV.out] at h
    exact h
  have HPk : Hid (∀ (B : Option Addr) (d : Nat) (Q : Nat → Pst) (W : World), Psts W B n Q → (∀ i, i < n → SameP (Q i) (P i)) → Calls Try.prog 10 #[.slice B n d] W fun e w' => ∃ A1 c1, e = .returned (.tuple #[.slice A1 xs.length c1, .int .i64 0]) ∧ OwnU w' W.heap.size (.slice A1 xs.length c1) xs ∧ Below W.heap.size W w') := Lib.hid fun B d Q W h1 h2 => by
    have h := packX_any (c := d) W h1
    rw [(packX_same h2).1, (packX_same h2).2, ← hxs, HEV.out] at h
    exact h
  have HRp : Hid (∀ W, Below w.heap.size w W → Calls Try.prog 12 #[.slice A n c] W fun e w' => ∃ A1 c1, e = .returned (.tuple #[.slice A1 xs.length c1, .int .i64 0]) ∧ OwnU w' W.heap.size (.slice A1 xs.length c1) xs ∧ Below W.heap.size W w') := Lib.hid fun W l => by
    have h := refPackX_any (c := c) W (hI.below l (Nat.le_refl _))
    rw [← hxs, HEV.out] at h
    exact h
  have HRi : Hid (∀ (B : Option Addr) (d : Nat) (Q : Nat → Pst) (W : World), Psts W B n Q → (∀ i, i < n → SameP (Q i) (P i)) → Calls Try.prog 14 #[.slice B n d] W fun e w' => e = .returned (.bool true) ∧ Below W.heap.size W w') := Lib.hid fun B d Q W h1 h2 => right_is ((right_same h2).trans HRV.out) W h1
  have HRr : Hid (∀ W, Below w.heap.size w W → Calls Try.prog 15 #[.slice A n c] W fun e w' => e = .returned (.bool true) ∧ Below W.heap.size W w') := Lib.hid fun W l => by
    have h := refRight_any A n c P W (hI.below l (Nat.le_refl _))
    rw [HRV.out] at h
    exact h
  clear hI hl hxs
  generalize xs.length = m at *
  go_enter Try.func3, Try.ntmps3
  go_wp2_with (first
    | (go_at_call 9; (with_reducible refine HL.out.mono ?_); rintro e w1 ⟨rfl, l1⟩; have L := Lib.hid l1; clear l1)
    | (go_at_call 11; (with_reducible refine (of_is _ (HI.out.below L.out (Nat.le_refl _)) HLi.out).mono ?_); rintro e w2 ⟨B, d, Q, rfl, hq, hs, l2⟩; have HQ := Lib.hid hq; have HS := Lib.hid hs; (try have O1 := Lib.hid (own_belowU O1.out l2)); (try have O2 := Lib.hid (own_belowU O2.out l2)); have L := Lib.hid (L.out.trans (l2.mono L.out.size)); clear hq hs l2)
    | (go_at_call 10; (with_reducible refine (HPk.out _ _ _ _ HQ.out HS.out).mono ?_); rintro e w3 ⟨A1, c1, rfl, o1, l3⟩; have O1 := Lib.hid o1; have L := Lib.hid (L.out.trans (l3.mono L.out.size)); clear o1 l3)
    | (go_at_call 12; (with_reducible refine (HRp.out _ L.out).mono ?_); rintro e w4 ⟨A2, c2, rfl, o2, l4⟩; have O2 := Lib.hid o2; have O1 := Lib.hid (own_belowU O1.out l4); have L := Lib.hid (L.out.trans (l4.mono L.out.size)); clear o2 l4)
    | (go_at_call 13; (with_reducible refine (HTp.out _ _ _ _ HQ.out HS.out).mono ?_); rintro e w5 ⟨rfl, l5⟩; have O1 := Lib.hid (own_belowU O1.out l5); have O2 := Lib.hid (own_belowU O2.out l5); have L := Lib.hid (L.out.trans (l5.mono L.out.size)); clear l5))
  have H4 := Lib.hid (HI.out.below L.out (Nat.le_refl _))
  go_loopw [9, 10, 11] (fun a b i wr => ∃ k : Nat, k ≤ n ∧ i = .int .i64 k ∧ a = .int .i64 (topN P k : Nat) ∧ b = .int .i64 (loL P k) ∧ Below w5.heap.size w5 wr) (fun _ _ i _ => n - (intOf i).toNat)
  case atStart => exact ⟨0, by omega, rfl, rfl, rfl, Below.refl _ _⟩
  case round =>
    obtain ⟨k, hk, rfl, rfl, rfl, hnx⟩ := hrel
    have HX := Lib.hid hnx
    by_cases hlt : k < n
    · obtain ⟨b, o, hA, hbl, hc⟩ := H4.out.at_ (by omega)
      subst hA
      have q1 := kcell hnx hbl (hc k hlt).c1
      have q2 := kcell hnx hbl (hc k hlt).c2
      have t1 := HLN.out k hlt
      have HT := Lib.hid (show topN P (k + 1) = max (topN P k) (P k).n from rfl)
      clear hc hnx
      rcases k with _ | k
      · have HM := Lib.hid (loL_one P t1)
        rw [loL_zero]
        clear t1
        generalize P 0 = p at *
        obtain ⟨pr, pl, pA, pn, pc, pF⟩ := p
        dsimp only at *
        generalize topN P 0 = tn at *
        go_wp2_with fail
        exact ⟨⟨0 + 1, by omega, by go_num, by rw [HT.out]; go_num, by rw [HM.out], HX.out⟩, by simp [intOf]; omega⟩
      · by_cases hlw : (P (k + 1)).len < loL P (k + 1)
        · have HM := Lib.hid (loL_lt P k hlw)
          have z1 : ((k : Int) + 1 == 0) = false := by simp; omega
          clear t1
          generalize P (k + 1) = p at *
          obtain ⟨pr, pl, pA, pn, pc, pF⟩ := p
          dsimp only at *
          generalize topN P (k + 1) = tn at *
          generalize loL P (k + 1) = ll at *
          have z2 : decide (pl < ll) = true := decide_eq_true hlw
          clear hlw
          go_wp2_with fail
          exact ⟨⟨k + 1 + 1, by omega, by go_num, by rw [HT.out]; go_num, by rw [HM.out], HX.out⟩, by simp [intOf]; omega⟩
        · have HM := Lib.hid (loL_ge P k hlw)
          have z1 : ((k : Int) + 1 == 0) = false := by simp; omega
          clear t1
          generalize P (k + 1) = p at *
          obtain ⟨pr, pl, pA, pn, pc, pF⟩ := p
          dsimp only at *
          generalize topN P (k + 1) = tn at *
          generalize loL P (k + 1) = ll at *
          have z2 : decide (pl < ll) = false := decide_eq_false hlw
          clear hlw
          go_wp2_with fail
          exact ⟨⟨k + 1 + 1, by omega, by go_num, by rw [HT.out]; go_num, by rw [HM.out], HX.out⟩, by simp [intOf]; omega⟩
    · have e : k = n := by omega
      rw [e, HT1.out, HT2.out]
      clear e
      have hcv1 := conv_own (own_belowU O1.out HX.out) H256.out
      have hcv2 := conv_own (own_belowU O2.out HX.out) H256.out
      have L := Lib.hid (L.out.trans (HX.out.mono L.out.size))
      clear hnx
      generalize strU xs = sx at *
      go_wp2_with (first
        | (go_at_call 11; (with_reducible refine (of_is _ (HI.out.below L.out (Nat.le_refl _)) HLi.out).mono ?_); rintro e w2 ⟨B, d, Q, rfl, hq, hs, l2⟩; have HQ := Lib.hid hq; have HS := Lib.hid hs; have L := Lib.hid (L.out.trans (l2.mono L.out.size)); clear hq hs l2)
        | (go_at_call 14; (with_reducible refine (HRi.out _ _ _ _ HQ.out HS.out).mono ?_); rintro e w6 ⟨rfl, l6⟩; have L := Lib.hid (L.out.trans (l6.mono L.out.size)); clear l6)
        | (go_at_call 15; (with_reducible refine (HRr.out _ L.out).mono ?_); rintro e w7 ⟨rfl, l7⟩; have L := Lib.hid (L.out.trans (l7.mono L.out.size)); clear l7)
        | (go_at_call 16; (with_reducible refine (HAw.out _).mono ?_); rintro e w8 ⟨rfl, l8⟩; have L := Lib.hid (L.out.trans (l8.mono L.out.size)); clear l8))
      go_ret
      exact ⟨rfl, L.out⟩
theorem blockPacks_walk (A : Option Addr) (n c : Nat) (P : Nat → Pst) (w : World) (hI : Psts w A n P) (hnil : A = none → c = 0) :
    Calls Try.prog 3 #[.slice A n c] w fun e w' => e = .returned (.bool true) ∧ Below w.heap.size w w' := by
  by_cases hl : LightP n P
  · cases hr : rightB n P with
    | false => exact packs_no A n c P w hI hl hr
    | true => exact packs_yes A n c P w hI hl hr
  · have HL := Lib.hid (light_any A n c P w hI)
    rw [decide_eq_false hl] at HL
    clear hI hl hnil
    go_enter Try.func3, Try.ntmps3
    go_wp2_with (go_at_call 9; (with_reducible refine HL.out.mono ?_); rintro e w1 ⟨rfl, l1⟩; have L1 := Lib.hid l1; clear l1)
    go_ret
    exact ⟨rfl, L1.out⟩
end Go.Proofs.Ytcmnnieeehmncaa
