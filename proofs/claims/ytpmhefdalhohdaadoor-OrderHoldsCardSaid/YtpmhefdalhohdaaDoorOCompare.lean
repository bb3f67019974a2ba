/- order.compare: which of two values is ahead. -/
import Derived.Test.YtpmhefdalhohdaaDoorOCmp
import Derived.Test.YtpmhefdalhohdaaDoorVMay2
namespace Go.Proofs.YtpmhefdalhohdaaDoor
open Go.RowKit
set_option linter.unusedVariables false

theorem cmpI_lt {a b : Int} (h : a < b) : cmpI a b = -1 := if_pos h
theorem cmpI_gt {a b : Int} (h : b < a) : cmpI a b = 1 := by unfold cmpI; rw [if_neg (by omega), if_pos h]
theorem cmpI_eq {a b : Int} (h : a = b) : cmpI a b = 0 := by unfold cmpI; rw [if_neg (by omega), if_neg (by omega)]
set_option maxHeartbeats 1000000 in
theorem cmp_int (a b : Int) (w : World) : Calls Tryd.prog 67 #[.int .i64 a, .int .i64 b] w fun e w' => e = .returned (.int .i64 (cmpI a b)) ∧ w = w' := by
  have q1 : (a != a) = false := by simp
  have q2 : (b != b) = false := by simp
  rcases Int.lt_trichotomy a b with h | h | h
  · have HE := Lib.hid (cmpI_lt h)
    go_enter Tryd.func67, Tryd.ntmps67
    go_wp2
    go_ret
    exact ⟨ret_i (by rw [HE.out]), rfl⟩
  · have HE := Lib.hid (cmpI_eq h)
    have h1 : ¬ a < b := by omega
    have h2 : ¬ b < a := by omega
    clear h
    go_enter Tryd.func67, Tryd.ntmps67
    go_wp2
    go_ret
    exact ⟨ret_i (by rw [HE.out]), rfl⟩
  · have HE := Lib.hid (cmpI_gt h)
    have h1 : ¬ a < b := by omega
    go_enter Tryd.func67, Tryd.ntmps67
    go_wp2
    go_ret
    exact ⟨ret_i (by rw [HE.out]), rfl⟩
set_option maxHeartbeats 1000000 in
theorem cmp_num (a b : Int) (w : World) : Calls Tryd.prog 41 #[.int .i64 a, .int .i64 b] w fun e w' => e = .returned (.int .i64 (cmpI a b)) ∧ w = w' := by
  have q1 : (a != a) = false := by simp
  have q2 : (b != b) = false := by simp
  rcases Int.lt_trichotomy a b with h | h | h
  · have HE := Lib.hid (cmpI_lt h)
    go_enter Tryd.func41, Tryd.ntmps41
    go_wp2
    go_ret
    exact ⟨ret_i (by rw [HE.out]), rfl⟩
  · have HE := Lib.hid (cmpI_eq h)
    have h1 : ¬ a < b := by omega
    have h2 : ¬ b < a := by omega
    clear h
    go_enter Tryd.func41, Tryd.ntmps41
    go_wp2
    go_ret
    exact ⟨ret_i (by rw [HE.out]), rfl⟩
  · have HE := Lib.hid (cmpI_gt h)
    have h1 : ¬ a < b := by omega
    go_enter Tryd.func41, Tryd.ntmps41
    go_wp2
    go_ret
    exact ⟨ret_i (by rw [HE.out]), rfl⟩
set_option maxHeartbeats 1000000 in
theorem cmp_byte (a b : Int) (w : World) : Calls Tryd.prog 40 #[.int .u8 a, .int .u8 b] w fun e w' => e = .returned (.int .i64 (cmpI a b)) ∧ w = w' := by
  have q1 : (a != a) = false := by simp
  have q2 : (b != b) = false := by simp
  rcases Int.lt_trichotomy a b with h | h | h
  · have HE := Lib.hid (cmpI_lt h)
    go_enter Tryd.func40, Tryd.ntmps40
    go_wp2
    go_ret
    exact ⟨ret_i (by rw [HE.out]), rfl⟩
  · have HE := Lib.hid (cmpI_eq h)
    have h1 : ¬ a < b := by omega
    have h2 : ¬ b < a := by omega
    clear h
    go_enter Tryd.func40, Tryd.ntmps40
    go_wp2
    go_ret
    exact ⟨ret_i (by rw [HE.out]), rfl⟩
  · have HE := Lib.hid (cmpI_gt h)
    have h1 : ¬ a < b := by omega
    go_enter Tryd.func40, Tryd.ntmps40
    go_wp2
    go_ret
    exact ⟨ret_i (by rw [HE.out]), rfl⟩
theorem less_s (a b : ByteArray) : Op.bytesLess a.toList b.toList = decide (cmpS a.data.toList b.data.toList < 0) := by
  rw [ByteArray.toList_eq, ByteArray.toList_eq]
  exact less_cmp _ _
theorem eq_s (a b : ByteArray) : (a.toList == b.toList) = decide (cmpS a.data.toList b.data.toList = 0) := by
  rw [ByteArray.toList_eq, ByteArray.toList_eq]
  by_cases h : cmpS a.data.toList b.data.toList = 0
  · rw [cmpS_eq _ _ h]; simp [cmpS_self]
  · have hne : a.data.toList ≠ b.data.toList := fun e => h (by rw [e]; exact cmpS_self _)
    rw [decide_eq_false h]
    exact beq_eq_false_iff_ne.2 hne
set_option maxHeartbeats 1000000 in
theorem cmp_str (a b : ByteArray) (w : World) : Calls Tryd.prog 42 #[.string a, .string b] w fun e w' => e = .returned (.int .i64 (cmpS a.data.toList b.data.toList)) ∧ w = w' := by
  have q1 : (a.toList != a.toList) = false := by simp
  have q2 : (b.toList != b.toList) = false := by simp
  have q3 := less_s a b
  have q4 := eq_s a b
  obtain ⟨c, hc⟩ : ∃ c, c = cmpS a.data.toList b.data.toList := ⟨_, rfl⟩
  have hv := cmpS_vals a.data.toList b.data.toList
  rw [← hc] at q3 q4 hv ⊢
  clear hc
  rcases hv with rfl | rfl | rfl
  all_goals
    try rw [show decide ((0 : Int) = 0) = true by decide] at q4
    try simp only [show decide ((-1 : Int) < 0) = true by decide, show decide ((-1 : Int) = 0) = false by decide, show decide ((0 : Int) < 0) = false by decide, show decide ((1 : Int) < 0) = false by decide, show decide ((1 : Int) = 0) = false by decide] at q3 q4
    go_enter Tryd.func42, Tryd.ntmps42
    go_wp2
    go_ret
    exact ⟨rfl, rfl⟩
theorem rank_mk (k : Int) (b : Bool) (n : Int) (s : ByteArray) (m : Nat) (f : Nat → VT) (q : Nat) (g : Nat → ByteArray) : rankV (.mk k b n s m f q g) = if k = 0 then 1 else if k = 1 then (if b = true then 3 else 2) else k + 2 := rfl
theorem ret_u8 {a b : Int} (h : a = b) : Ending.returned (.int .u8 a) = .returned (.int .u8 b) := by rw [h]
set_option maxHeartbeats 2000000 in
set_option maxRecDepth 100000 in
theorem kind_any {t : VT} {v : Value} {S : Nat → Prop} {w0 : World} (h : HasJ w0 S t v) (hk : 0 ≤ t.k ∧ t.k ≤ 5) (w : World) : Calls Tryd.prog 39 #[v] w fun e w' => e = .returned (.int .u8 (rankV t)) ∧ w = w' := by
  rcases t with _ | ⟨k, b, n, s, m, f, q, g⟩
  · exact h.elim
  have hk : 0 ≤ k ∧ k ≤ 5 := hk
  rcases h with ⟨rfl, rfl⟩ | ⟨rfl, rfl⟩ | ⟨rfl, rfl, hn⟩ | ⟨rfl, rfl, hs⟩ | ⟨rfl, A, c, rfl, h2, h3, h4, h5⟩ | ⟨rfl, A, c, rfl, h2, h3, h4, h5⟩ | ⟨hk, rfl, hk2⟩
  · rw [rank_mk]
    go_enter Tryd.func39, Tryd.ntmps39
    go_wp2
    go_ret
    exact ⟨rfl, rfl⟩
  · rw [rank_mk]
    cases b
    all_goals
      go_enter Tryd.func39, Tryd.ntmps39
      go_wp2
      go_ret
      exact ⟨rfl, rfl⟩
  · rw [rank_mk]
    go_enter Tryd.func39, Tryd.ntmps39
    go_wp2
    go_ret
    exact ⟨rfl, rfl⟩
  · rw [rank_mk]
    go_enter Tryd.func39, Tryd.ntmps39
    go_wp2
    go_ret
    exact ⟨rfl, rfl⟩
  · clear h5 h4
    rw [rank_mk]
    go_enter Tryd.func39, Tryd.ntmps39
    go_wp2
    go_ret
    exact ⟨rfl, rfl⟩
  · clear h5 h4
    rw [rank_mk]
    go_enter Tryd.func39, Tryd.ntmps39
    go_wp2
    go_ret
    exact ⟨rfl, rfl⟩
  · omega
/-- A value that the heap holds. -/
abbrev JV (w : World) (t : VT) (v : Value) : Prop := HasJ w (fun x => x < w.heap.size) t v
theorem JV.below {w w' : World} {t : VT} {v : Value} (h : JV w t v) (hb : Below w.heap.size w w') : JV w' t v := h.keep fun x hx => ⟨hb.block x hx, Nat.lt_of_lt_of_le hx hb.size⟩
def CmpC (t : VT) : Prop := ∀ (u : VT) (v1 v2 : Value) (w : World), JV w t v1 → JV w u v2 → Fit t → Fit u →
  Calls Tryd.prog 27 #[v1, v2] w fun e w' => e = .returned (.int .i64 (cmpV t u)) ∧ Below w.heap.size w w'
/-- What holding two rows against one another tells. -/
def rowV (p : Nat → Int) (m m' : Nat) : Int := if firstE p (min m m') ≠ 0 then firstE p (min m m') else cmpI m m'
theorem rowV_stop {p : Nat → Int} {m m' j M : Nat} (hM : M = min m m') (h0 : firstE p j = 0) (h : p j ≠ 0) (hlt : j < M) : rowV p m m' = p j := by
  unfold rowV
  rw [← hM, firstE_stop h0 h hlt, if_pos h]
theorem rowV_end {p : Nat → Int} {m m' M : Nat} (hM : M = min m m') (h0 : firstE p M = 0) : rowV p m m' = cmpI m m' := by
  unfold rowV
  rw [← hM, h0, if_neg (by simp)]
set_option maxHeartbeats 4000000 in
set_option maxRecDepth 100000 in
theorem rows_any (f f' : Nat → VT) (m m' : Nat) (A B : Option Addr) (c c' : Nat) (w : World) (h1 : ∀ i, i < m → ∃ u, JV w (f i) u ∧ cellAt w A i = some u) (h2 : ∀ i, i < m' → ∃ u, JV w (f' i) u ∧ cellAt w B i = some u) (f1 : ∀ i, i < m → Fit (f i)) (f2 : ∀ i, i < m' → Fit (f' i)) (ih : ∀ i, CmpC (f i))
    (hmc : m ≤ c) (hc : c ≤ 9223372036854775807) (hmc' : m' ≤ c') (hc' : c' ≤ 9223372036854775807) :
    Calls Tryd.prog 43 #[.slice A m c, .slice B m' c', .func (.func 27) #[] #[]] w fun e w' => e = .returned (.int .i64 (rowV (fun i => cmpV (f i) (f' i)) m m')) ∧ Below w.heap.size w w' := by
  obtain ⟨M, hM⟩ : ∃ M : Nat, M = min m m' := ⟨_, rfl⟩
  have eM : min (m : Int) (m' : Int) = (M : Int) := by omega
  have HM := Lib.hid hM
  have HX := Lib.hid eM
  have hM1 : M ≤ m := by omega
  have hM2 : M ≤ m' := by omega
  clear hM eM
  go_enter Tryd.func43, Tryd.ntmps43
  go_wp2_with fail
  rw [HX.out]
  go_loopw [14] (fun i wr => ∃ j : Nat, j ≤ M ∧ i = .int .i64 j ∧ firstE (fun i => cmpV (f i) (f' i)) j = 0 ∧ Below w.heap.size w wr) (fun i _ => M - (intOf i).toNat)
  case atStart => exact ⟨0, by omega, rfl, rfl, Below.refl _ _⟩
  case round =>
    obtain ⟨j, hj, rfl, hz, hb⟩ := hrel
    have HZ := Lib.hid hz
    have HB := Lib.hid hb
    clear hz hb
    by_cases hlt : j < M
    · obtain ⟨u1, a1, a2⟩ := h1 j (by omega)
      obtain ⟨u2, b1, b2⟩ := h2 j (by omega)
      obtain ⟨xb, o, rfl⟩ := cellAt_inv a2
      obtain ⟨yb, p, rfl⟩ := cellAt_inv b2
      have HD := Lib.hid (HB.out.drew)
      have KS := Lib.hid (show ∀ W : World, Below w.heap.size w W → (W.cell? ⟨xb, o + j, none⟩ = some u1 ∧ W.cell? ⟨yb, p + j, none⟩ = some u2) from fun W hb => ⟨KeepC.below hb _ _ a2, KeepC.below hb _ _ b2⟩)
      obtain ⟨R, hR⟩ : ∃ R, R = cmpV (f j) (f' j) := ⟨_, rfl⟩
      have HR := Lib.hid hR
      have C0 := ih j (f' j) u1 u2 wr.drew (a1.below HD.out) (b1.below HD.out) (f1 j (by omega)) (f2 j (by omega))
      rw [← hR] at C0
      have C := Lib.hid C0
      have H1 := Lib.hid h1
      have H2 := Lib.hid h2
      clear C0 hR a1 a2 b1 b2 h1 h2
      by_cases h0 : R = 0
      · subst h0
        go_wp2_with fail
        go_region_held_law (fun W => W.cell? ⟨xb, o + j, none⟩ = some u1 ∧ W.cell? ⟨yb, p + j, none⟩ = some u2)
          (first | exact KS.out _ HD.out | exact KS.out _ B2.out)
          ((go_at_call 27; refine C.out.mono ?_; rintro e w2 ⟨rfl, l2⟩; have B2 := Lib.hid (HD.out.trans (l2.mono HD.out.size)); clear l2))
        all_goals
          go_wp2_with fail
          go_roundw
          case rel => exact ⟨j + 1, by omega, by go_num, firstE_go HZ.out HR.out.symm, B2.out⟩
          case measure => simp [intOf]; omega
      · have h1 : (R != 0) = true := by simpa using h0
        have HE := Lib.hid (rowV_stop HM.out HZ.out (fun e => h0 (HR.out.trans e)) hlt)
        clear h0
        go_wp2_with fail
        go_region_held_law (fun W => W.cell? ⟨xb, o + j, none⟩ = some u1 ∧ W.cell? ⟨yb, p + j, none⟩ = some u2)
          (first | exact KS.out _ HD.out | exact KS.out _ B2.out)
          ((go_at_call 27; refine C.out.mono ?_; rintro e w2 ⟨rfl, l2⟩; have B2 := Lib.hid (HD.out.trans (l2.mono HD.out.size)); clear l2))
        all_goals
          go_wp2_with fail
          go_ret
          exact ⟨ret_i (HR.out.trans HE.out.symm), B2.out⟩
    · obtain rfl : j = M := by omega
      have HE := Lib.hid (rowV_end HM.out HZ.out)
      have H1 := Lib.hid h1
      have H2 := Lib.hid h2
      clear h1 h2
      go_wp2_with fail
      refine (cmp_int _ _ _).mono ?_
      rintro e w2 ⟨rfl, rfl⟩
      go_wp2_with fail
      go_ret
      exact ⟨ret_i (by rw [HE.out]), HB.out⟩
/-- A member ahead of another one. -/
def memC (t u : VT) (a b : ByteArray) : Int := if a ≠ b then cmpS a.data.toList b.data.toList else cmpV t u
theorem memC_no {t u : VT} {a b : ByteArray} (h : cmpS a.data.toList b.data.toList ≠ 0) : memC t u a b = cmpS a.data.toList b.data.toList := if_pos fun e => h ((name_cmp _ _).1 e)
theorem memC_yes {t u : VT} {a b : ByteArray} (h : cmpS a.data.toList b.data.toList = 0) : memC t u a b = cmpV t u := if_neg fun e => e ((name_cmp _ _).2 h)
set_option maxHeartbeats 4000000 in
set_option maxRecDepth 100000 in
theorem member_any (t u : VT) (a b : ByteArray) (v1 v2 : Value) (w : World) (h1 : JV w t v1) (h2 : JV w u v2) (f1 : Fit t) (f2 : Fit u) (ih : CmpC t) :
    Calls Tryd.prog 45 #[.agg #[.string a, v1], .agg #[.string b, v2]] w fun e w' => e = .returned (.int .i64 (memC t u a b)) ∧ Below w.heap.size w w' := by
  have L := Lib.hid (((Below.refl w.heap.size w).alloc (Nat.le_refl _) (.cells #[.string a, v1] 58)).alloc (by simp) (.cells #[.string b, v2] 58))
  have C0 := ih u v1 v2 _ (h1.below L.out) (h2.below L.out) f1 f2
  have C := Lib.hid C0
  have H1 := Lib.hid h1
  have H2 := Lib.hid h2
  have CS := Lib.hid (fun W => cmp_str a b W)
  obtain ⟨R, hR⟩ : ∃ R, R = cmpS a.data.toList b.data.toList := ⟨_, rfl⟩
  have HR := Lib.hid hR
  rw [← hR] at CS
  clear C0 h1 h2 hR
  by_cases h0 : R = 0
  · have HE := Lib.hid (memC_yes (t := t) (u := u) (by rw [← HR.out]; exact h0))
    subst h0
    go_enter Tryd.func45, Tryd.ntmps45
    go_wp2_with fail
    refine (CS.out _).mono ?_
    rintro e w2 ⟨rfl, rfl⟩
    go_wp2_with fail
    refine C.out.mono ?_
    rintro e w2 ⟨rfl, l2⟩
    have HL2 := Lib.hid l2
    clear l2
    go_wp2_with fail
    go_ret
    exact ⟨ret_i (by rw [HE.out]), L.out.trans (HL2.out.mono L.out.size)⟩
  · have HE := Lib.hid (memC_no (t := t) (u := u) (by rw [← HR.out]; exact h0))
    have e1 : (R != 0) = true := by simpa using h0
    clear h0
    go_enter Tryd.func45, Tryd.ntmps45
    go_wp2_with fail
    refine (CS.out _).mono ?_
    rintro e w2 ⟨rfl, rfl⟩
    go_wp2_with fail
    go_ret
    exact ⟨ret_i (by rw [HE.out, ← HR.out]), L.out⟩
set_option maxHeartbeats 4000000 in
set_option maxRecDepth 100000 in
theorem rows_mem (f f' : Nat → VT) (g g' : Nat → ByteArray) (m m' : Nat) (A B : Option Addr) (c c' : Nat) (w : World) (h1 : ∀ i, i < m → cellAt w A (2 * i) = some (.string (g i)) ∧ ∃ u, JV w (f i) u ∧ cellAt w A (2 * i + 1) = some u) (h2 : ∀ i, i < m' → cellAt w B (2 * i) = some (.string (g' i)) ∧ ∃ u, JV w (f' i) u ∧ cellAt w B (2 * i + 1) = some u) (f1 : ∀ i, i < m → Fit (f i)) (f2 : ∀ i, i < m' → Fit (f' i)) (ih : ∀ i, CmpC (f i))
    (hmc : m ≤ c) (hc : c ≤ 9223372036854775807) (hmc' : m' ≤ c') (hc' : c' ≤ 9223372036854775807) :
    Calls Tryd.prog 44 #[.slice A m c, .slice B m' c', .func (.func 45) #[] #[]] w fun e w' => e = .returned (.int .i64 (rowV (fun i => memC (f i) (f' i) (g i) (g' i)) m m')) ∧ Below w.heap.size w w' := by
  obtain ⟨M, hM⟩ : ∃ M : Nat, M = min m m' := ⟨_, rfl⟩
  have eM : min (m : Int) (m' : Int) = (M : Int) := by omega
  have HM := Lib.hid hM
  have HX := Lib.hid eM
  have hM1 : M ≤ m := by omega
  have hM2 : M ≤ m' := by omega
  clear hM eM
  go_enter Tryd.func44, Tryd.ntmps44
  go_wp2_with fail
  rw [HX.out]
  go_loopw [14] (fun i wr => ∃ j : Nat, j ≤ M ∧ i = .int .i64 j ∧ firstE (fun i => memC (f i) (f' i) (g i) (g' i)) j = 0 ∧ Below w.heap.size w wr) (fun i _ => M - (intOf i).toNat)
  case atStart => exact ⟨0, by omega, rfl, rfl, Below.refl _ _⟩
  case round =>
    obtain ⟨j, hj, rfl, hz, hb⟩ := hrel
    have HZ := Lib.hid hz
    have HB := Lib.hid hb
    clear hz hb
    by_cases hlt : j < M
    · obtain ⟨n1, u1, a1, a2⟩ := h1 j (by omega)
      obtain ⟨n2, u2, b1, b2⟩ := h2 j (by omega)
      obtain ⟨xb, o, rfl⟩ := cellAt_inv a2
      obtain ⟨yb, p, rfl⟩ := cellAt_inv b2
      rw [cellAt_some, Nat.mul_comm] at n1 n2
      rw [cellAt_some, Nat.mul_comm, ← Nat.add_assoc] at a2 b2
      have HD := Lib.hid (HB.out.drew)
      have KS := Lib.hid (show ∀ W : World, Below w.heap.size w W → (W.cell? ⟨xb, o + j * 2, none⟩ = some (.string (g j)) ∧ W.cell? ⟨xb, o + j * 2 + 1, none⟩ = some u1 ∧ W.cell? ⟨yb, p + j * 2, none⟩ = some (.string (g' j)) ∧ W.cell? ⟨yb, p + j * 2 + 1, none⟩ = some u2) from fun W hb => ⟨KeepC.below hb _ _ n1, KeepC.below hb _ _ a2, KeepC.below hb _ _ n2, KeepC.below hb _ _ b2⟩)
      obtain ⟨R, hR⟩ : ∃ R, R = memC (f j) (f' j) (g j) (g' j) := ⟨_, rfl⟩
      have HR := Lib.hid hR
      have C0 := member_any (f j) (f' j) (g j) (g' j) u1 u2 wr.drew (a1.below HD.out) (b1.below HD.out) (f1 j (by omega)) (f2 j (by omega)) (ih j)
      rw [← hR] at C0
      have C := Lib.hid C0
      have H1 := Lib.hid h1
      have H2 := Lib.hid h2
      clear C0 hR a1 a2 b1 b2 n1 n2 h1 h2
      by_cases h0 : R = 0
      · subst h0
        go_wp2_with fail
        go_region_held_law (fun W => W.cell? ⟨xb, o + j * 2, none⟩ = some (.string (g j)) ∧ W.cell? ⟨xb, o + j * 2 + 1, none⟩ = some u1 ∧ W.cell? ⟨yb, p + j * 2, none⟩ = some (.string (g' j)) ∧ W.cell? ⟨yb, p + j * 2 + 1, none⟩ = some u2)
          (first | exact KS.out _ HD.out | exact KS.out _ B2.out)
          ((go_at_call 45; refine C.out.mono ?_; rintro e w2 ⟨rfl, l2⟩; have B2 := Lib.hid (HD.out.trans (l2.mono HD.out.size)); clear l2))
        all_goals
          go_wp2_with fail
          go_roundw
          case rel => exact ⟨j + 1, by omega, by go_num, firstE_go HZ.out HR.out.symm, B2.out⟩
          case measure => simp [intOf]; omega
      · have h1 : (R != 0) = true := by simpa using h0
        have HE := Lib.hid (rowV_stop HM.out HZ.out (fun e => h0 (HR.out.trans e)) hlt)
        clear h0
        go_wp2_with fail
        go_region_held_law (fun W => W.cell? ⟨xb, o + j * 2, none⟩ = some (.string (g j)) ∧ W.cell? ⟨xb, o + j * 2 + 1, none⟩ = some u1 ∧ W.cell? ⟨yb, p + j * 2, none⟩ = some (.string (g' j)) ∧ W.cell? ⟨yb, p + j * 2 + 1, none⟩ = some u2)
          (first | exact KS.out _ HD.out | exact KS.out _ B2.out)
          ((go_at_call 45; refine C.out.mono ?_; rintro e w2 ⟨rfl, l2⟩; have B2 := Lib.hid (HD.out.trans (l2.mono HD.out.size)); clear l2))
        all_goals
          go_wp2_with fail
          go_ret
          exact ⟨ret_i (HR.out.trans HE.out.symm), B2.out⟩
    · obtain rfl : j = M := by omega
      have HE := Lib.hid (rowV_end HM.out HZ.out)
      have H1 := Lib.hid h1
      have H2 := Lib.hid h2
      clear h1 h2
      go_wp2_with fail
      refine (cmp_int _ _ _).mono ?_
      rintro e w2 ⟨rfl, rfl⟩
      go_wp2_with fail
      go_ret
      exact ⟨ret_i (by rw [HE.out]), HB.out⟩
end Go.Proofs.YtpmhefdalhohdaaDoor
