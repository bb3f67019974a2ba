/- The document's Depth; how long keys are. -/
import Derived.Test.YtpmhefdalhohdaaDoorOChainJ
import Derived.Test.YtpmhefdalhohdaaDoorVRefMay
namespace Go.Proofs.YtpmhefdalhohdaaDoor
open Go.RowKit
set_option linter.unusedVariables false

def maxN (p : Nat → Nat) : Nat → Nat
  | 0 => 0
  | i + 1 => if maxN p i < p i then p i else maxN p i
theorem maxN_le {p : Nat → Nat} : ∀ {m i : Nat}, i < m → p i ≤ maxN p m
  | 0, _, h => absurd h (by omega)
  | m + 1, i, h => by
    rw [maxN]
    rcases Nat.lt_or_ge i m with h2 | h2
    · have := maxN_le (p := p) h2
      split <;> omega
    · have : i = m := by omega
      subst this
      split <;> omega
theorem maxN_all {p : Nat → Nat} {b : Nat} : ∀ {m : Nat}, (∀ i, i < m → p i ≤ b) → maxN p m ≤ b
  | 0, _ => by rw [maxN]; omega
  | m + 1, h => by
    rw [maxN]
    have := maxN_all (p := p) (b := b) (m := m) fun i hi => h i (by omega)
    have := h m (by omega)
    split <;> omega
/-- How deep a value is. -/
def depthV : VT → Nat
  | .no => 0
  | .mk k _ _ _ m f _ _ => if k < 4 then 0 else maxN (fun i => depthV (f i)) m + 1
theorem fit_depth : ∀ (t : VT) (d : Nat), mayV t d = 0 → depthV t = 0 ∨ depthV t + d ≤ 32
  | .no, _, _ => .inl (by rw [depthV])
  | .mk k b n s m f q g, d, h => by
    have hf : Fit (.mk k b n s m f q g) := ⟨d, h⟩
    have hk := hf.kind
    have hk : 0 ≤ k ∧ k ≤ 5 := hk
    rw [depthV]
    by_cases h4 : k < 4
    · rw [if_pos h4]; exact .inl rfl
    · rw [if_neg h4]
      right
      have hd : d < 32 := by
        unfold mayV at h
        rw [if_neg (by omega), if_neg (by omega), if_neg (by omega), if_pos (by omega)] at h
        split at h
        · omega
        · omega
      have hi : ∀ i, i < m → mayV (f i) (d + 1) = 0 := by
        unfold mayV at h
        rw [if_neg (by omega), if_neg (by omega), if_neg (by omega), if_pos (by omega), if_neg (by omega)] at h
        intro i hi
        have := firstE_zero h i hi
        by_cases c1 : k = 5 ∧ utfB (g i) = false
        · simp [c1] at this
        · simp only [if_neg c1] at this
          by_cases c2 : k = 5 ∧ amongB g (g i) i = true
          · simp [c2] at this
          · simp only [if_neg c2] at this
            exact this
      have := maxN_all (p := fun i => depthV (f i)) (b := 31 - d) (m := m) fun i hi2 => by
        rcases fit_depth (f i) (d + 1) (hi i hi2) with e | e
        · show depthV (f i) ≤ _; omega
        · show depthV (f i) ≤ _; omega
      omega
/-- What may be somewhere may be deeper, as far as its depth goes. -/
theorem may_deep : ∀ (t : VT) (d e : Nat), mayV t d = 0 → depthV t + e ≤ 32 → mayV t e = 0
  | .no, d, _, h, _ => by rw [mayV] at h; omega
  | .mk k b n s m f q g, d, e, h, he => by
    rw [depthV] at he
    unfold mayV at h ⊢
    by_cases h0 : k = 0 ∨ k = 1
    · rw [if_pos h0]
    · rw [if_neg h0] at h ⊢
      by_cases h2 : k = 2
      · rw [if_pos h2] at h ⊢; exact h
      · rw [if_neg h2] at h ⊢
        by_cases h3 : k = 3
        · rw [if_pos h3] at h ⊢; exact h
        · rw [if_neg h3] at h ⊢
          by_cases h4 : k = 4 ∨ k = 5
          · rw [if_pos h4] at h ⊢
            rw [if_neg (by omega)] at he
            rw [if_neg (by omega)]
            split at h
            · omega
            · refine firstE_none fun i hi => ?_
              have hz := firstE_zero h i hi
              have hl := maxN_le (p := fun i => depthV (f i)) hi
              have hl : depthV (f i) ≤ maxN (fun i => depthV (f i)) m := hl
              by_cases c1 : k = 5 ∧ utfB (g i) = false
              · simp [c1] at hz
              · simp only [if_neg c1] at hz ⊢
                by_cases c2 : k = 5 ∧ amongB g (g i) i = true
                · simp [c2] at hz
                · simp only [if_neg c2] at hz ⊢
                  exact may_deep (f i) (d + 1) (e + 1) hz (by omega)
          · rw [if_neg h4] at h; omega
theorem word_short (g : ByteArray) (h : g.size ≤ 300) : (wordK g.data.toList).length ≤ 603 := by
  have c := esc_len g.data.toList
  have e : g.data.toList.length = g.size := by rw [Array.length_toList]; rfl
  unfold wordK
  rw [List.length_cons, List.length_append]
  show _ + 2 + 1 ≤ 603
  omega
/-- A key is not long. -/
theorem key_len : ∀ (t : VT), OkV t → (keyV t).length + 650 ≤ 1300 * partsV t
  | .no, _ => by rw [keyV, partsV]; show 0 + 650 ≤ _; omega
  | .mk k b n s m f q g, h => by
    obtain ⟨o1, o2, o3, o4⟩ := h
    rw [partsV]
    unfold keyV
    by_cases h2 : k = 2
    · rw [if_pos h2]; show 9 + 650 ≤ _; omega
    · rw [if_neg h2]
      by_cases h3 : k = 3
      · rw [if_pos h3]
        have := word_short s o1
        omega
      · rw [if_neg h3]
        by_cases h4 : k = 4 ∨ k = 5
        · rw [if_pos h4, if_pos h4]
          have key : ∀ j, j ≤ m → (catN (fun i => (if k = 5 then wordK (g i).data.toList else []) ++ keyV (f i)) j).length ≤ 1300 * sumN (fun i => partsV (f i)) j := by
            intro j
            induction j with
            | zero => intro _; show 0 ≤ _; omega
            | succ j ih =>
              intro hj
              have a := ih (by omega)
              obtain ⟨p1, p2⟩ := o4 h4 j (by omega)
              have b := key_len (f j) p2
              have c : (if k = 5 then wordK (g j).data.toList else []).length ≤ 603 := by
                by_cases h5 : k = 5
                · rw [if_pos h5]; exact word_short _ (p1 h5)
                · rw [if_neg h5]; show 0 ≤ 603; omega
              rw [catN, sumN, List.length_append]
              show _ + ((if k = 5 then wordK (g j).data.toList else []) ++ keyV (f j)).length ≤ 1300 * (_ + partsV (f j))
              rw [List.length_append]
              omega
          have := key m (Nat.le_refl _)
          rw [List.length_cons, List.length_append]
          show _ + 1 + 1 + 650 ≤ _
          omega
        · rw [if_neg h4, if_neg h4]; show 1 + 650 ≤ _; omega
theorem key_short {t : VT} (h : lightB t = true) : (keyV t).length ≤ 400000 := by
  obtain ⟨h1, h2⟩ := light_ok h
  have := key_len t h1
  omega
def DepS (t : VT) : Prop := Fit t → OkV t → ∀ (cs : Array Value) (w : World), InV w t cs → Calls Tryd.prog 24 #[.agg cs] w fun e w' => e = .returned (.int .i64 (depthV t)) ∧ Below w.heap.size w w'
theorem ret_d {a b : Int} (h : a = b) : Ending.returned (.int .i64 a) = .returned (.int .i64 b) := by rw [h]
set_option maxHeartbeats 4000000 in
set_option maxRecDepth 100000 in
theorem depth_row (k : Int) (b : Bool) (n : Int) (s : ByteArray) (m : Nat) (f : Nat → VT) (q : Nat) (g : Nat → ByteArray) (A : Option Addr) (c : Nat) (B : Option Addr) (dd : Nat) (w : World) (hk : ¬ k < 4) (hk2 : k ≤ 5) (hmc : m ≤ c) (hc : c ≤ 9223372036854775807)
    (hit : ∀ i, i < m → ∃ ds, InV w (f i) ds ∧ ∀ j (h : j < ds.size), cellAt w A (6 * i + j) = some ds[j]) (hsm : ∀ i, i < m → depthV (f i) ≤ 32) (hok : ∀ i, i < m → Fit (f i) ∧ OkV (f i)) (ih : ∀ i, DepS (f i)) :
    Calls Tryd.prog 24 #[.agg #[.int .i64 k, .bool b, .int .i64 n, .string s, .slice A m c, .slice B q dd]] w fun e w' => e = .returned (.int .i64 ((maxN (fun i => depthV (f i)) m + 1 : Nat) : Int)) ∧ Below w.heap.size w w' := by
  have HI := Lib.hid hit
  have HO := Lib.hid hok
  have IH := Lib.hid ih
  have HS := Lib.hid hsm
  clear hit hok ih hsm
  go_enter Tryd.func24, Tryd.ntmps24
  go_wp2_with fail
  obtain ⟨W1, hW1⟩ : ∃ W1, W1 = w.alloc (.cells #[.int .i64 k, .bool b, .int .i64 n, .string s, .slice A m c, .slice B q dd] 25) := ⟨_, rfl⟩
  rw [← hW1]
  have HW := Lib.hid hW1
  clear hW1
  go_loopw [3, 4] (fun x i wr => ∃ j : Nat, j ≤ m ∧ i = .int .i64 j ∧ x = .int .i64 ((maxN (fun i => depthV (f i)) j : Nat) : Int) ∧ Below W1.heap.size W1 wr) (fun _ i _ => m - (intOf i).toNat)
  case atStart => exact ⟨0, by omega, rfl, rfl, Below.refl _ _⟩
  case round =>
    obtain ⟨j, hj, rfl, rfl, hb⟩ := hrel
    have HB := Lib.hid hb
    obtain ⟨b0, _, _, _, b4, b5, lb, kc⟩ := boxed HW.out hb
    have HLB := Lib.hid lb
    have HK := Lib.hid kc
    clear hb lb kc
    obtain ⟨M, hM⟩ : ∃ M, M = maxN (fun i => depthV (f i)) j := ⟨_, rfl⟩
    have hM2 : M ≤ 32 := by rw [hM]; exact maxN_all fun i hi => HS.out i (by omega)
    by_cases hlt : j < m
    · obtain ⟨xb, o, kj, bj, nj, sj, Aj, mj, cj, Bj, qj, dj, rfl, hiv, g0, g1, g2, g3, g4, g5⟩ := item_at HI.out HK.out hlt
      obtain ⟨R, hR⟩ : ∃ R, R = depthV (f j) := ⟨_, rfl⟩
      have hR2 : R ≤ 32 := by rw [hR]; exact HS.out j hlt
      have CC := Lib.hid (show Calls Tryd.prog 24 #[.agg #[.int .i64 kj, .bool bj, .int .i64 nj, .string sj, .slice Aj mj cj, .slice Bj qj dj]] wr fun e w' => e = .returned (.int .i64 (R : Int)) ∧ Below wr.heap.size wr w' from by rw [hR]; exact IH.out j (HO.out j hlt).1 (HO.out j hlt).2 _ wr hiv)
      have HN := Lib.hid (show maxN (fun i => depthV (f i)) (j + 1) = if M < R then R else M by rw [maxN, hM, hR])
      rw [← hM]
      have HMM := Lib.hid hM
      have HRR := Lib.hid hR
      clear hiv hM hR
      by_cases hgt : M < R
      · have e1 : (M : Int) < (R : Int) := by omega
        have HN2 := Lib.hid (HN.out.trans (if_pos hgt))
        clear hgt
        go_wp2_with fail
        refine CC.out.mono ?_
        rintro e w2 ⟨rfl, l2⟩
        have HL2 := Lib.hid l2
        clear l2
        go_wp2_with fail
        go_roundw
        case rel => exact ⟨j + 1, by omega, by go_num, by rw [HN2.out], HB.out.trans (HL2.out.mono HB.out.size)⟩
        case measure => simp [intOf]; omega
      · have e1 : ¬ (M : Int) < (R : Int) := by omega
        have HN2 := Lib.hid (HN.out.trans (if_neg hgt))
        clear hgt
        go_wp2_with fail
        refine CC.out.mono ?_
        rintro e w2 ⟨rfl, l2⟩
        have HL2 := Lib.hid l2
        clear l2
        go_wp2_with fail
        go_roundw
        case rel => exact ⟨j + 1, by omega, by go_num, by rw [HN2.out], HB.out.trans (HL2.out.mono HB.out.size)⟩
        case measure => simp [intOf]; omega
    · obtain rfl : j = m := by omega
      rw [← hM]
      have HMM := Lib.hid hM
      clear hM
      go_wp2_with fail
      go_ret
      exact ⟨ret_d (by rw [← HMM.out]; omega), HLB.out⟩
set_option maxHeartbeats 4000000 in
set_option maxRecDepth 100000 in
theorem depth_low (k : Int) (b : Bool) (n : Int) (s : ByteArray) (m : Nat) (q : Nat) (A : Option Addr) (c : Nat) (B : Option Addr) (dd : Nat) (w : World) (hk : k < 4) :
    Calls Tryd.prog 24 #[.agg #[.int .i64 k, .bool b, .int .i64 n, .string s, .slice A m c, .slice B q dd]] w fun e w' => e = .returned (.int .i64 0) ∧ Below w.heap.size w w' := by
  go_enter Tryd.func24, Tryd.ntmps24
  go_wp2_with fail
  go_ret
  exact ⟨rfl, (Below.refl _ _).alloc (Nat.le_refl _) _⟩
theorem depth_any : ∀ t : VT, DepS t
  | .no => fun _ _ _ _ h => h.elim
  | .mk k b n s m f q g => fun ft ok cs w h => by
    obtain ⟨A, c, B, d, rfl, a1, a2, a3, a4, a5, a6, a7, a8, a9⟩ := h
    obtain ⟨d0, h0⟩ := id ft
    obtain ⟨o1, o2, o3, o4⟩ := ok
    have hk := ft.kind
    have hk : 0 ≤ k ∧ k ≤ 5 := hk
    rw [depthV]
    by_cases h4 : k < 4
    · rw [if_pos h4]
      exact depth_low k b n s m q A c B d w h4
    · rw [if_neg h4]
      have h45 : k = 4 ∨ k = 5 := by omega
      exact depth_row k b n s m f q g A c B d w h4 hk.2 a4 a5 a8 (fun i hi => by
        obtain ⟨d1, hd1⟩ := (ft.item h45 hi).1
        rcases fit_depth (f i) d1 hd1 with e | e <;> omega) (fun i hi => ⟨(ft.item h45 hi).1, (o4 h45 i hi).2⟩) fun i => depth_any (f i)
theorem conv_later {w' W' : World} {base : Nat} {v : Value} {l : List UInt8} (h : OwnL w' base v l) (hb : Below w'.heap.size w' W') : (convert 35 9 v).run Tryd.prog W' = .ok (.string ⟨l.toArray⟩) W' := conv_own (h.below hb)
theorem key_of (t : VT) (h : lightB t = true) (hm : mayV t 0 = 0) : ∀ (W : World) (x : Value), JV W t x → TabU W → Calls Tryd.prog 17 #[x] W fun e w' => ∃ v, e = .returned (.tuple #[v, .int .i64 0]) ∧ (∀ W', Below w'.heap.size w' W' → (convert 35 9 v).run Tryd.prog W' = .ok (.string ⟨(keyV t).toArray⟩) W') ∧ Below W.heap.size W w' := fun W x hx hT =>
  (Key_any t x W hx (light_ok h).1.small hT (by have := key_short h; omega)).mono fun e w' ⟨_, h2, h3⟩ => by
    obtain ⟨v, e1, e2⟩ := h2 hm
    exact ⟨v, e1, fun W' hb => conv_later e2 hb, h3⟩
end Go.Proofs.YtpmhefdalhohdaaDoor
