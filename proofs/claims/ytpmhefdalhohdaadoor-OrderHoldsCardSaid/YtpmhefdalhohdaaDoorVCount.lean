/- Light and count: how many parts a value has. -/
import Derived.Test.YtpmhefdalhohdaaDoorVMem
import Derived.Deep.OwnRows
import Derived.Deep.Draws
import Derived.OwnWalk
namespace Go.Proofs.YtpmhefdalhohdaaDoor
open Go.RowKit
set_option linter.unusedVariables false

def stepC (k : Int) (g : Nat → ByteArray) (c : Nat → Int → Int) (i : Nat) (x : Int) : Int := if k = 5 ∧ 300 < (g i).size then -1 else c i x
theorem count_row {k n m q x : _} {b s f g} (h : ¬ (x - 1 < 0 ∨ 300 < s.size ∨ 300 < m ∨ (k = 5 ∧ q ≠ m))) (hk : k = 4 ∨ k = 5) : countV (.mk k b n s m f q g) x = goN (stepC k g (fun i => countV (f i))) (x - 1) m := by
  rw [countV, if_neg h, if_neg (by omega)]
  rfl
theorem count_le (t : VT) (x : Int) : countV t x ≤ x ∨ countV t x < 0 := by
  by_cases h : 0 ≤ countV t x
  · have := (count_parts t x h).1
    omega
  · omega
def CountS (t : VT) : Prop := ∀ (x : Int) (cs : Array Value) (w : World), InV w t cs → -1000 ≤ x → x ≤ 1000 →
  Calls Tryd.prog 25 #[.agg cs, .int .i64 x] w fun e w' => e = .returned (.int .i64 (countV t x)) ∧ Below w.heap.size w w'
set_option maxHeartbeats 2000000 in
set_option maxRecDepth 100000 in
theorem count_list (b : Bool) (n : Int) (s : ByteArray) (m : Nat) (f : Nat → VT) (q : Nat) (g : Nat → ByteArray) (A : Option Addr) (c : Nat) (B : Option Addr) (d : Nat) (x : Int) (w : World) (hs : s.size ≤ 9223372036854775807) (hmc : m ≤ c) (hc : c ≤ 9223372036854775807) (hqd : q ≤ d) (hd : d ≤ 9223372036854775807) (hx0 : -1000 ≤ x) (hx1 : x ≤ 1000)
    (hit : ∀ i, i < m → ∃ ds, InV w (f i) ds ∧ ∀ j (h : j < ds.size), cellAt w A (6 * i + j) = some ds[j]) (hnm : ∀ i, i < q → cellAt w B i = some (.string (g i)) ∧ (g i).size ≤ 9223372036854775807) (ih : ∀ i, CountS (f i)) (h1 : 0 ≤ x - 1) (h2 : s.size ≤ 300) (h3 : m ≤ 300) :
    Calls Tryd.prog 25 #[.agg #[.int .i64 4, .bool b, .int .i64 n, .string s, .slice A m c, .slice B q d], .int .i64 x] w fun e w' => e = .returned (.int .i64 (countV (.mk 4 b n s m f q g) x)) ∧ Below w.heap.size w w' := by
  have HE := Lib.hid (count_row (k := 4) (b := b) (n := n) (f := f) (q := q) (g := g) (by omega : ¬ (x - 1 < 0 ∨ 300 < s.size ∨ 300 < m ∨ ((4 : Int) = 5 ∧ q ≠ m))) (.inl rfl))
  go_enter Tryd.func25, Tryd.ntmps25
  go_wp2_with fail
  obtain ⟨W1, hW1⟩ : ∃ W1, W1 = w.alloc (.cells #[.int .i64 4, .bool b, .int .i64 n, .string s, .slice A m c, .slice B q d] 25) := ⟨_, rfl⟩
  rw [← hW1]
  have HW := Lib.hid hW1
  clear hW1
  go_loopw [1, 5] (fun l i wr => ∃ (j : Nat) (L : Int), j ≤ m ∧ i = .int .i64 j ∧ l = .int .i64 L ∧ L = goN (stepC 4 g (fun i => countV (f i))) (x - 1) j ∧ 0 ≤ L ∧ L ≤ 1000 ∧ Below W1.heap.size W1 wr) (fun _ i _ => m - (intOf i).toNat)
  case atStart => exact ⟨0, _, by omega, rfl, rfl, rfl, by omega, by omega, Below.refl _ _⟩
  case round =>
    obtain ⟨j, L, hj, rfl, rfl, hLe, hp, hq2, hb⟩ := hrel
    obtain ⟨b0, _, _, _, b4, b5, lb, kc⟩ := boxed HW.out hb
    have HB := Lib.hid hb
    have HLB := Lib.hid lb
    have HLe := Lib.hid hLe
    clear hb lb hLe
    by_cases hlt : j < m
    · obtain ⟨xb, o, kj, bj, nj, sj, Aj, mj, cj, Bj, qj, dj, rfl, hiv, g0, g1, g2, g3, g4, g5⟩ := item_at hit kc hlt
      have HI := Lib.hid hit
      have HN := Lib.hid hnm
      have HK := Lib.hid kc
      have HV := Lib.hid hiv
      clear hit hnm kc hiv
      go_wp2_with fail
      refine (ih j L _ wr HV.out (by omega) (by omega)).mono ?_
      rintro e w2 ⟨rfl, l2⟩
      obtain ⟨R, hR⟩ : ∃ R, R = countV (f j) L := ⟨_, rfl⟩
      rw [← hR]
      have HR := Lib.hid hR
      have HL2 := Lib.hid l2
      clear hR l2
      have hs : stepC 4 g (fun i => countV (f i)) j L = R := by unfold stepC; rw [if_neg (by omega), HR.out]
      have HS := Lib.hid hs
      clear hs
      by_cases hneg : R < 0
      · go_wp2_with fail
        go_ret
        refine ⟨?_, HLB.out.trans (HL2.out.mono HLB.out.size)⟩
        rw [HE.out, goN_stop (i := j) (by rw [← HLe.out]; exact hp) (by rw [← HLe.out, HS.out]; exact hneg) hlt]
        rfl
      · have hR1 : R ≤ 1000 := by have := count_le (f j) L; rw [← HR.out] at this; omega
        go_wp2_with fail
        go_roundw
        case rel =>
          refine ⟨j + 1, R, by omega, by go_num, rfl, ?_, by omega, hR1, HB.out.trans (HL2.out.mono HB.out.size)⟩
          rw [goN_go (by rw [← HLe.out]; exact hp) (by rw [← HLe.out, HS.out]; omega), ← HLe.out, HS.out]
        case measure => simp [intOf]; omega
    · have HI := Lib.hid hit
      have HN := Lib.hid hnm
      have HK := Lib.hid kc
      clear hit hnm kc
      have hjm : j = m := by omega
      go_wp2_with fail
      go_ret
      exact ⟨by rw [HE.out, ← hjm, ← HLe.out]; rfl, HLB.out⟩
set_option maxHeartbeats 2000000 in
set_option maxRecDepth 100000 in
theorem count_object (b : Bool) (n : Int) (s : ByteArray) (m : Nat) (f : Nat → VT) (g : Nat → ByteArray) (A : Option Addr) (c : Nat) (B : Option Addr) (d : Nat) (x : Int) (w : World) (hs : s.size ≤ 9223372036854775807) (hmc : m ≤ c) (hc : c ≤ 9223372036854775807) (hqd : m ≤ d) (hd : d ≤ 9223372036854775807) (hx0 : -1000 ≤ x) (hx1 : x ≤ 1000)
    (hit : ∀ i, i < m → ∃ ds, InV w (f i) ds ∧ ∀ j (h : j < ds.size), cellAt w A (6 * i + j) = some ds[j]) (hnm : ∀ i, i < m → cellAt w B i = some (.string (g i)) ∧ (g i).size ≤ 9223372036854775807) (ih : ∀ i, CountS (f i)) (h1 : 0 ≤ x - 1) (h2 : s.size ≤ 300) (h3 : m ≤ 300) :
    Calls Tryd.prog 25 #[.agg #[.int .i64 5, .bool b, .int .i64 n, .string s, .slice A m c, .slice B m d], .int .i64 x] w fun e w' => e = .returned (.int .i64 (countV (.mk 5 b n s m f m g) x)) ∧ Below w.heap.size w w' := by
  have HE := Lib.hid (count_row (k := 5) (b := b) (n := n) (f := f) (q := m) (g := g) (by omega : ¬ (x - 1 < 0 ∨ 300 < s.size ∨ 300 < m ∨ ((5 : Int) = 5 ∧ m ≠ m))) (.inr rfl))
  go_enter Tryd.func25, Tryd.ntmps25
  go_wp2_with fail
  obtain ⟨W1, hW1⟩ : ∃ W1, W1 = w.alloc (.cells #[.int .i64 5, .bool b, .int .i64 n, .string s, .slice A m c, .slice B m d] 25) := ⟨_, rfl⟩
  rw [← hW1]
  have HW := Lib.hid hW1
  clear hW1
  go_loopw [1, 5] (fun l i wr => ∃ (j : Nat) (L : Int), j ≤ m ∧ i = .int .i64 j ∧ l = .int .i64 L ∧ L = goN (stepC 5 g (fun i => countV (f i))) (x - 1) j ∧ 0 ≤ L ∧ L ≤ 1000 ∧ Below W1.heap.size W1 wr) (fun _ i _ => m - (intOf i).toNat)
  case atStart => exact ⟨0, _, by omega, rfl, rfl, rfl, by omega, by omega, Below.refl _ _⟩
  case round =>
    obtain ⟨j, L, hj, rfl, rfl, hLe, hp, hq2, hb⟩ := hrel
    obtain ⟨b0, _, _, _, b4, b5, lb, kc⟩ := boxed HW.out hb
    have HB := Lib.hid hb
    have HLB := Lib.hid lb
    have HLe := Lib.hid hLe
    clear hb lb hLe
    by_cases hlt : j < m
    · obtain ⟨xb, o, kj, bj, nj, sj, Aj, mj, cj, Bj, qj, dj, rfl, hiv, g0, g1, g2, g3, g4, g5⟩ := item_at hit kc hlt
      obtain ⟨yb, yo, rfl, gn, gz⟩ := name_at hnm kc hlt
      have HI := Lib.hid hit
      have HN := Lib.hid hnm
      have HK := Lib.hid kc
      have HV := Lib.hid hiv
      clear hit hnm kc hiv
      by_cases hlong : 300 < (g j).size
      · have hs : stepC 5 g (fun i => countV (f i)) j L = -1 := by unfold stepC; rw [if_pos ⟨rfl, hlong⟩]
        have HS := Lib.hid hs
        clear hs
        go_wp2_with fail
        go_ret
        refine ⟨?_, HLB.out⟩
        rw [HE.out, goN_stop (i := j) (by rw [← HLe.out]; exact hp) (by rw [← HLe.out, HS.out]; decide) hlt]
        rfl
      · go_wp2_with fail
        refine (ih j L _ wr HV.out (by omega) (by omega)).mono ?_
        rintro e w2 ⟨rfl, l2⟩
        obtain ⟨R, hR⟩ : ∃ R, R = countV (f j) L := ⟨_, rfl⟩
        rw [← hR]
        have HR := Lib.hid hR
        have HL2 := Lib.hid l2
        clear hR l2
        have hs : stepC 5 g (fun i => countV (f i)) j L = R := by unfold stepC; rw [if_neg (by omega), HR.out]
        have HS := Lib.hid hs
        clear hs
        by_cases hneg : R < 0
        · go_wp2_with fail
          go_ret
          refine ⟨?_, HLB.out.trans (HL2.out.mono HLB.out.size)⟩
          rw [HE.out, goN_stop (i := j) (by rw [← HLe.out]; exact hp) (by rw [← HLe.out, HS.out]; exact hneg) hlt]
          rfl
        · have hR1 : R ≤ 1000 := by have := count_le (f j) L; rw [← HR.out] at this; omega
          go_wp2_with fail
          go_roundw
          case rel =>
            refine ⟨j + 1, R, by omega, by go_num, rfl, ?_, by omega, hR1, HB.out.trans (HL2.out.mono HB.out.size)⟩
            rw [goN_go (by rw [← HLe.out]; exact hp) (by rw [← HLe.out, HS.out]; omega), ← HLe.out, HS.out]
          case measure => simp [intOf]; omega
    · have HI := Lib.hid hit
      have HN := Lib.hid hnm
      have HK := Lib.hid kc
      clear hit hnm kc
      have hjm : j = m := by omega
      go_wp2_with fail
      go_ret
      exact ⟨by rw [HE.out, ← hjm, ← HLe.out]; rfl, HLB.out⟩
set_option maxHeartbeats 2000000 in
set_option maxRecDepth 100000 in
theorem count_mk (k : Int) (b : Bool) (n : Int) (s : ByteArray) (m : Nat) (f : Nat → VT) (q : Nat) (g : Nat → ByteArray) (ih : ∀ i, CountS (f i)) : CountS (.mk k b n s m f q g) := by
  intro x cs w h hx0 hx1
  obtain ⟨A, c, B, d, rfl, hk, hn, hs, hmc, hc, hqd, hd, hit, hnm⟩ := h
  unfold In64 at hk hn
  unfold vCells
  by_cases h1 : x - 1 < 0
  · rw [show countV (.mk k b n s m f q g) x = -1 by unfold countV; rw [if_pos (.inl h1)]]
    clear ih hit hnm
    go_enter Tryd.func25, Tryd.ntmps25
    go_wp2_with fail
    all_goals
      go_ret
      exact ⟨rfl, (Below.refl _ _).alloc (Nat.le_refl _) _⟩
  · by_cases h2 : 300 < s.size
    · rw [show countV (.mk k b n s m f q g) x = -1 by unfold countV; rw [if_pos (.inr (.inl h2))]]
      clear ih hit hnm
      go_enter Tryd.func25, Tryd.ntmps25
      go_wp2_with fail
      all_goals
        go_ret
        exact ⟨rfl, (Below.refl _ _).alloc (Nat.le_refl _) _⟩
    · by_cases h3 : 300 < m
      · rw [show countV (.mk k b n s m f q g) x = -1 by unfold countV; rw [if_pos (.inr (.inr (.inl h3)))]]
        clear ih hit hnm
        go_enter Tryd.func25, Tryd.ntmps25
        go_wp2_with fail
        all_goals
          go_ret
          exact ⟨rfl, (Below.refl _ _).alloc (Nat.le_refl _) _⟩
      · by_cases h5 : k = 5
        · subst h5
          by_cases h6 : q = m
          · subst h6
            exact count_object b n s q f g A c B d x w hs hmc hc hqd hd hx0 hx1 hit hnm ih (by omega) (by omega) (by omega)
          · rw [show countV (.mk 5 b n s m f q g) x = -1 by unfold countV; rw [if_pos (.inr (.inr (.inr ⟨rfl, h6⟩)))]]
            clear ih hit hnm
            have e1 : ((q : Int) != (m : Int)) = true := by simp; omega
            go_enter Tryd.func25, Tryd.ntmps25
            go_wp2_with fail
            all_goals
              go_ret
              exact ⟨rfl, (Below.refl _ _).alloc (Nat.le_refl _) _⟩
        · by_cases h4 : k = 4
          · subst h4
            exact count_list b n s m f q g A c B d x w hs hmc hc hqd hd hx0 hx1 hit hnm ih (by omega) (by omega) (by omega)
          · rw [show countV (.mk k b n s m f q g) x = x - 1 by unfold countV; rw [if_neg (by omega), if_pos ⟨h4, h5⟩]]
            clear ih hit hnm
            have e1 : (k == 5) = false := by simp; omega
            have e2 : (k != 4) = true := by simp; omega
            have e3 : (k != 5) = true := by simp; omega
            go_enter Tryd.func25, Tryd.ntmps25
            go_wp2_with fail
            all_goals
              go_ret
              exact ⟨rfl, (Below.refl _ _).alloc (Nat.le_refl _) _⟩
theorem count_any : ∀ t : VT, CountS t
  | .no => fun _ _ _ h => h.elim
  | .mk k b n s m f q g => count_mk k b n s m f q g fun i => count_any (f i)
set_option maxHeartbeats 2000000 in
theorem light_any (t : VT) (cs : Array Value) (w : World) (h : InV w t cs) : Calls Tryd.prog 11 #[.agg cs] w fun e w' => e = .returned (.bool (lightB t)) ∧ Below w.heap.size w w' := by
  rcases t with _ | ⟨k, b, n, s, m, f, q, g⟩
  · exact h.elim
  have h' := h
  obtain ⟨A, c, B, d, rfl, _⟩ := h
  have H := Lib.hid h'
  clear h'
  unfold vCells at *
  obtain ⟨W1, hW1⟩ : ∃ W1, W1 = w.alloc (.cells #[.int .i64 k, .bool b, .int .i64 n, .string s, .slice A m c, .slice B q d] 25) := ⟨_, rfl⟩
  have hl : Below w.heap.size w W1 := by rw [hW1]; exact (Below.refl w.heap.size w).alloc (Nat.le_refl _) _
  have HL := Lib.hid hl
  have HW := Lib.hid hW1
  have hC := count_any (.mk k b n s m f q g) 300 _ W1 (H.out.keep (KeepC.below hl)) (by omega) (by omega)
  rw [hW1] at hC
  have HC := Lib.hid hC
  clear hl hW1 hC
  go_enter Tryd.func11, Tryd.ntmps11
  go_wp2_with fail
  refine HC.out.mono ?_
  rintro e w2 ⟨rfl, l2⟩
  have HL2 := Lib.hid l2
  clear l2
  go_wp2_with fail
  go_ret
  refine ⟨rfl, ?_⟩
  have := HL2.out
  rw [← HW.out] at this
  exact HL.out.trans (this.mono HL.out.size)
end Go.Proofs.YtpmhefdalhohdaaDoor
