/- The document's May. -/
import Derived.Test.YtpmhefdalhohdaaDoorVMem
import Derived.Test.YtpmhefdalhohdaaDoorVUtf
import Derived.Deep.QuietTactic
import Derived.BigQuiet
import Derived.Deep.OwnRows
import Derived.Deep.Draws
import Derived.OwnWalk
namespace Go.Proofs.YtpmhefdalhohdaaDoor
open Go.RowKit
set_option linter.unusedVariables false

theorem refHeld_any (n : Int) (w : World) : Calls Tryd.prog 46 #[.int .i64 n] w fun e w' => e = .returned (.bool (heldB n)) ∧ w = w' := by
  by_cases h1 : -9000000000000000000 ≤ n
  · by_cases h2 : n ≤ 9000000000000000000
    · rw [heldB_mk ⟨h1, h2⟩]
      go_enter Tryd.func46, Tryd.ntmps46
      go_wp2
      go_ret
      exact ⟨rfl, rfl⟩
    · rw [heldB_not (.inr (by omega))]
      go_enter Tryd.func46, Tryd.ntmps46
      go_wp2
      go_ret
      exact ⟨rfl, rfl⟩
  · rw [heldB_not (.inl (by omega))]
    go_enter Tryd.func46, Tryd.ntmps46
    go_wp2
    go_ret
    exact ⟨rfl, rfl⟩
theorem ba_eq {a b : ByteArray} : (a.toList == b.toList) = decide (a = b) := by
  by_cases h : a = b
  · simp [h]
  · have : a.toList ≠ b.toList := fun e => h (by
      rw [ByteArray.toList_eq, ByteArray.toList_eq] at e
      obtain ⟨⟨a⟩⟩ := a
      obtain ⟨⟨b⟩⟩ := b
      simp at e
      rw [e])
    simp [h, this]
set_option maxHeartbeats 1000000 in
set_option maxRecDepth 100000 in
theorem among_any (g : Nat → ByteArray) (s : ByteArray) (B : Option Addr) (q d : Nat) (w : World) (hn : ∀ i, i < q → cellAt w B i = some (.string (g i))) (hq : q ≤ 9223372036854775807) :
    Calls Tryd.prog 48 #[.slice B q d, .string s] w fun e w' => e = .returned (.bool (amongB g s q)) ∧ w = w' := by
  go_enter Tryd.func48, Tryd.ntmps48
  go_wp2_with fail
  go_loopw [5] (fun i wr => wr = w ∧ ∃ j : Nat, j ≤ q ∧ i = .int .i64 j ∧ amongB g s j = false) (fun i _ => q - (intOf i).toNat)
  case atStart => exact ⟨rfl, 0, by omega, rfl, rfl⟩
  case round =>
    obtain ⟨rfl, j, hj, rfl, hz⟩ := hrel
    have HZ := Lib.hid hz
    clear hz
    by_cases hlt : j < q
    · have hc := hn j hlt
      obtain ⟨xb, o, rfl⟩ := cellAt_inv hc
      rw [cellAt_some] at hc
      have HN := Lib.hid hn
      clear hn
      by_cases e : g j = s
      · have e1 : (g j).toList = s.toList := by rw [e]
        have HE := Lib.hid (show amongB g s q = true from among_iff.2 ⟨j, hlt, e⟩)
        clear e
        go_wp2_with fail
        go_ret
        exact ⟨by rw [HE.out]; rfl, rfl⟩
      · have HE := Lib.hid (show amongB g s (j + 1) = false by rw [amongB, HZ.out]; simpa using e)
        have e1 : ((g j).toList == s.toList) = false := by rw [ba_eq]; simpa using e
        clear e
        go_wp2_with fail
        go_roundw
        case rel => exact ⟨trivial, j + 1, by omega, by go_num, HE.out⟩
        case measure => simp [intOf]; omega
    · obtain rfl : j = q := by omega
      have HN := Lib.hid hn
      clear hn
      go_wp2_with fail
      go_ret
      exact ⟨by rw [HZ.out]; rfl, rfl⟩
theorem below_dN {B k : Nat} {a w : World} (h : Below B a w) : Below B a (w.drewN k) := ⟨h.os, h.tape, h.output, h.size, h.block⟩
theorem keep_drewN (w : World) (k : Nat) : KeepC w (w.drewN k) := fun a v h => by simpa using h
def RefMayS (t : VT) : Prop := OkV t → ∀ (cs : Array Value) (d : Nat) (D : Int) (w : World), InV w t cs → d ≤ 32 → D = d →
  Calls Tryd.prog 28 #[.agg cs, .int .i64 D] w fun e w' => e = .returned (.int .i64 (mayV t d)) ∧ Below w.heap.size w w'
def memQ (f : Nat → VT) (g : Nat → ByteArray) (d : Nat) (i : Nat) : Int := if utfB (g i) = false then 11 else if amongB g (g i) i = true then 13 else mayV (f i) (d + 1)
theorem mayQ_list {k n m q : _} {b s f g} (d : Nat) (hk : k = 4) : mayV (.mk k b n s m f q g) d = if 32 ≤ d then 10 else firstE (fun i => mayV (f i) (d + 1)) m := by
  subst hk
  rw [mayV]
  simp
theorem mayQ_object {k n m q : _} {b s f g} (d : Nat) (hk : k = 5) : mayV (.mk k b n s m f q g) d = if 32 ≤ d then 10 else firstE (memQ f g d) m := by
  subst hk
  rw [mayV]
  simp
  rfl
theorem ret_q {a b : Int} (h : a = b) : Ending.returned (.int .i64 a) = .returned (.int .i64 b) := by rw [h]
set_option maxHeartbeats 4000000 in
set_option maxRecDepth 100000 in
theorem refMay_list (b : Bool) (n : Int) (s : ByteArray) (m : Nat) (f : Nat → VT) (q : Nat) (g : Nat → ByteArray) (A : Option Addr) (c : Nat) (B : Option Addr) (dd : Nat) (d : Nat) (D : Int) (w : World) (hs : s.size ≤ 9223372036854775807) (hmc : m ≤ c) (hc : c ≤ 9223372036854775807) (hqd : q ≤ dd) (hdd : dd ≤ 9223372036854775807) (h3 : m ≤ 300) (hd : d ≤ 32) (hD : D = d)
    (hit : ∀ i, i < m → ∃ ds, InV w (f i) ds ∧ ∀ j (h : j < ds.size), cellAt w A (6 * i + j) = some ds[j]) (hnm : ∀ i, i < q → cellAt w B i = some (.string (g i)) ∧ (g i).size ≤ 9223372036854775807) (hok : ∀ i, i < m → OkV (f i)) (ih : ∀ i, RefMayS (f i)) :
    Calls Tryd.prog 28 #[.agg #[.int .i64 4, .bool b, .int .i64 n, .string s, .slice A m c, .slice B q dd], .int .i64 D] w fun e w' => e = .returned (.int .i64 (mayV (.mk 4 b n s m f q g) d)) ∧ Below w.heap.size w w' := by
  by_cases h32 : 32 ≤ d
  · obtain rfl : d = 32 := by omega
    subst hD
    have HE := Lib.hid (show mayV (.mk 4 b n s m f q g) 32 = 10 by rw [mayQ_list 32 rfl, if_pos (by omega)])
    clear hit hnm ih
    go_enter Tryd.func28, Tryd.ntmps28
    go_wp2_with fail
    go_ret
    exact ⟨ret_q (by rw [HE.out]), (Below.refl _ _).alloc (Nat.le_refl _) _⟩
  · have HE := Lib.hid (show mayV (.mk 4 b n s m f q g) d = firstE (fun i => mayV (f i) (d + 1)) m by rw [mayQ_list d rfl, if_neg h32])
    have hD1 : D < 32 := by omega
    have hD2 : 0 ≤ D := by omega
    have HDD := Lib.hid hD
    clear hD
    go_enter Tryd.func28, Tryd.ntmps28
    go_wp2_with fail
    obtain ⟨W1, hW1⟩ : ∃ W1, W1 = w.alloc (.cells #[.int .i64 4, .bool b, .int .i64 n, .string s, .slice A m c, .slice B q dd] 25) := ⟨_, rfl⟩
    rw [← hW1]
    have HW := Lib.hid hW1
    clear hW1
    go_loopw [5] (fun i wr => ∃ j : Nat, j ≤ m ∧ i = .int .i64 j ∧ firstE (fun i => mayV (f i) (d + 1)) j = 0 ∧ Below W1.heap.size W1 wr) (fun i _ => m - (intOf i).toNat)
    case atStart => exact ⟨0, by omega, rfl, rfl, Below.refl _ _⟩
    case round =>
      obtain ⟨j, hj, rfl, hz, hb⟩ := hrel
      have HB := Lib.hid hb
      have HZ := Lib.hid hz
      obtain ⟨b0, _, _, _, b4, b5, lb, kc⟩ := boxed HW.out hb
      have HLB := Lib.hid lb
      clear hb hz lb
      by_cases hlt : j < m
      · obtain ⟨xb, o, kj, bj, nj, sj, Aj, mj, cj, Bj, qj, dj, rfl, hiv, g0, g1, g2, g3, g4, g5⟩ := item_at hit kc hlt
        have C0 := ih j (hok j hlt) _ (d + 1) (D + 1) wr hiv (by omega) (by have := HDD.out; omega)
        obtain ⟨R, hR⟩ : ∃ R, R = mayV (f j) (d + 1) := ⟨_, rfl⟩
        rw [← hR] at C0
        have C := Lib.hid C0
        have HR := Lib.hid hR.symm
        have BB := HB
        have HI := Lib.hid hit
        have HN := Lib.hid hnm
        have HK := Lib.hid kc
        clear C0 hR hit hnm kc hiv
        by_cases h0 : R = 0
        · subst h0
          go_wp2_with fail
          refine C.out.mono ?_
          rintro e w2 ⟨rfl, l2⟩
          have HL2 := Lib.hid l2
          clear l2
          go_wp2_with fail
          go_roundw
          case rel => exact ⟨j + 1, by omega, by go_num, firstE_go HZ.out HR.out, BB.out.trans (HL2.out.mono BB.out.size)⟩
          case measure => simp [intOf]; omega
        · have h1 : (R != 0) = true := by simpa using h0
          have HE2 := Lib.hid (firstE_stop (p := (fun i => mayV (f i) (d + 1))) HZ.out (by rw [HR.out]; exact h0) hlt)
          clear h0
          go_wp2_with fail
          refine C.out.mono ?_
          rintro e w2 ⟨rfl, l2⟩
          have HL2 := Lib.hid l2
          clear l2
          go_wp2_with fail
          go_ret
          exact ⟨ret_q (by rw [HE.out, HE2.out, HR.out]), ((boxed HW.out BB.out).2.2.2.2.2.2.1).trans (HL2.out.mono (boxed HW.out BB.out).2.2.2.2.2.2.1.size)⟩
      · obtain rfl : j = m := by omega
        have HI := Lib.hid hit
        have HN := Lib.hid hnm
        have HK := Lib.hid kc
        clear hit hnm kc
        go_wp2_with fail
        go_ret
        exact ⟨ret_q (by rw [HE.out, HZ.out]), HLB.out⟩
set_option maxHeartbeats 4000000 in
set_option maxRecDepth 100000 in
theorem refMay_object (b : Bool) (n : Int) (s : ByteArray) (m : Nat) (f : Nat → VT) (g : Nat → ByteArray) (A : Option Addr) (c : Nat) (B : Option Addr) (dd : Nat) (d : Nat) (D : Int) (w : World) (hs : s.size ≤ 9223372036854775807) (hmc : m ≤ c) (hc : c ≤ 9223372036854775807) (hqd : m ≤ dd) (hdd : dd ≤ 9223372036854775807) (h3 : m ≤ 300) (hd : d ≤ 32) (hD : D = d)
    (hit : ∀ i, i < m → ∃ ds, InV w (f i) ds ∧ ∀ j (h : j < ds.size), cellAt w A (6 * i + j) = some ds[j]) (hnm : ∀ i, i < m → cellAt w B i = some (.string (g i)) ∧ (g i).size ≤ 9223372036854775807) (hgs : ∀ i, i < m → (g i).size ≤ 300) (hok : ∀ i, i < m → OkV (f i)) (ih : ∀ i, RefMayS (f i)) :
    Calls Tryd.prog 28 #[.agg #[.int .i64 5, .bool b, .int .i64 n, .string s, .slice A m c, .slice B m dd], .int .i64 D] w fun e w' => e = .returned (.int .i64 (mayV (.mk 5 b n s m f m g) d)) ∧ Below w.heap.size w w' := by
  by_cases h32 : 32 ≤ d
  · obtain rfl : d = 32 := by omega
    subst hD
    have HE := Lib.hid (show mayV (.mk 5 b n s m f m g) 32 = 10 by rw [mayQ_object 32 rfl, if_pos (by omega)])
    clear hit hnm ih
    go_enter Tryd.func28, Tryd.ntmps28
    go_wp2_with fail
    go_ret
    exact ⟨ret_q (by rw [HE.out]), (Below.refl _ _).alloc (Nat.le_refl _) _⟩
  · have HE := Lib.hid (show mayV (.mk 5 b n s m f m g) d = firstE (memQ f g d) m by rw [mayQ_object d rfl, if_neg h32])
    have hD1 : D < 32 := by omega
    have hD2 : 0 ≤ D := by omega
    have HDD := Lib.hid hD
    clear hD
    go_enter Tryd.func28, Tryd.ntmps28
    go_wp2_with fail
    obtain ⟨W1, hW1⟩ : ∃ W1, W1 = w.alloc (.cells #[.int .i64 5, .bool b, .int .i64 n, .string s, .slice A m c, .slice B m dd] 25) := ⟨_, rfl⟩
    rw [← hW1]
    have HW := Lib.hid hW1
    clear hW1
    go_loopw [5] (fun i wr => ∃ j : Nat, j ≤ m ∧ i = .int .i64 j ∧ firstE (memQ f g d) j = 0 ∧ Below W1.heap.size W1 wr) (fun i _ => m - (intOf i).toNat)
    case atStart => exact ⟨0, by omega, rfl, rfl, Below.refl _ _⟩
    case round =>
      obtain ⟨j, hj, rfl, hz, hb⟩ := hrel
      have HB := Lib.hid hb
      have HZ := Lib.hid hz
      obtain ⟨b0, _, _, _, b4, b5, lb, kc⟩ := boxed HW.out hb
      have HLB := Lib.hid lb
      clear hb hz lb
      by_cases hlt : j < m
      · obtain ⟨xb, o, kj, bj, nj, sj, Aj, mj, cj, Bj, qj, dj, rfl, hiv, g0, g1, g2, g3, g4, g5⟩ := item_at hit kc hlt
        obtain ⟨yb, yo, rfl, gn, gz⟩ := name_at hnm kc hlt
        have CU := Lib.hid (utf_any (g j) wr (by have := hgs j hlt; omega))
        have C0 : ∀ (R : Int) (W : World), R = mayV (f j) (d + 1) → InV W (f j) #[.int .i64 kj, .bool bj, .int .i64 nj, .string sj, .slice Aj mj cj, .slice Bj qj dj] → Calls Tryd.prog 28 #[.agg #[.int .i64 kj, .bool bj, .int .i64 nj, .string sj, .slice Aj mj cj, .slice Bj qj dj], .int .i64 (D + 1)] W fun e w' => e = .returned (.int .i64 R) ∧ Below W.heap.size W w' := fun R W hR hv => by rw [hR]; exact ih j (hok j hlt) _ (d + 1) (D + 1) W hv (by omega) (by have := HDD.out; omega)
        have HI := Lib.hid hit
        have HN := Lib.hid hnm
        have HK := Lib.hid kc
        have HV := Lib.hid hiv
        cases hv : utfB (g j)
        · rw [hv] at CU
          have HE2 := Lib.hid (firstE_stop (p := memQ f g d) HZ.out (by unfold memQ; rw [if_pos hv]; decide) hlt)
          have HE3 := Lib.hid (show memQ f g d j = 11 by unfold memQ; rw [if_pos hv])
          clear hit hnm kc hiv hv C0
          go_wp2_with fail
          refine CU.out.mono ?_
          rintro e w2 ⟨rfl, rfl⟩
          go_wp2_with fail
          go_ret
          exact ⟨ret_q (by rw [HE.out, HE2.out, HE3.out]), HLB.out⟩
        · rw [hv] at CU
          have AM0 : ∀ W : World, (∀ i, i < m → cellAt W (some ⟨yb, yo, none⟩) i = some (.string (g i))) → Calls Tryd.prog 48 #[.slice (some ⟨yb, yo, none⟩) j dd, .string (g j)] W fun e w' => e = .returned (.bool (amongB g (g j) j)) ∧ W = w' := fun W h => among_any g (g j) _ j dd W (fun i hi => h i (by omega)) (by omega)
          have HC := Lib.hid (show ∀ k i, i < m → cellAt (wr.drewN k) (some ⟨yb, yo, none⟩) i = some (.string (g i)) from fun k i hi => (keep_drewN wr k).at (kc.at (hnm i hi).1))
          have AM := Lib.hid AM0
          have HVV := Lib.hid hv
          have ej : j ≤ dd := by omega
          cases ha : amongB g (g j) j
          · rw [ha] at AM
            have HP := Lib.hid (show memQ f g d j = mayV (f j) (d + 1) by unfold memQ; rw [if_neg (by rw [hv]; simp), if_neg (by rw [ha]; simp)])
            clear hit hnm kc hiv hv ha AM0
            have HC1 := Lib.hid C0
            clear C0
            go_wp2_with fail
            refine CU.out.mono ?_
            rintro e w2 ⟨rfl, rfl⟩
            go_wp2_with fail
            go_quiet ((go_at_call 48; exact Calls.quiet_of_same ((AM.out _ (HC.out _)).mono fun e w' ⟨he, hw⟩ => ⟨he, hw.symm⟩)))
            all_goals
              obtain ⟨R, hR⟩ : ∃ R, R = mayV (f j) (d + 1) := ⟨_, rfl⟩
              have HR := Lib.hid (HP.out.trans hR.symm)
              have HRR := Lib.hid hR
              clear hR
              have BB0 := Lib.hid (fun k => below_dN (k := k) HB.out)
              by_cases h0 : R = 0
              · subst h0
                go_wp2_with fail
                refine (HC1.out _ _ HRR.out (HV.out.keep (keep_drewN wr _))).mono ?_
                rintro e w2 ⟨rfl, l2⟩
                have BB := Lib.hid ((BB0.out _).trans (l2.mono (BB0.out _).size))
                clear l2
                go_wp2_with fail
                go_roundw
                case rel => exact ⟨j + 1, by omega, by go_num, firstE_go HZ.out HR.out, BB.out⟩
                case measure => simp [intOf]; omega
              · have h1 : (R != 0) = true := by simpa using h0
                have HE2 := Lib.hid (firstE_stop (p := memQ f g d) HZ.out (by rw [HR.out]; exact h0) hlt)
                clear h0
                go_wp2_with fail
                refine (HC1.out _ _ HRR.out (HV.out.keep (keep_drewN wr _))).mono ?_
                rintro e w2 ⟨rfl, l2⟩
                have BB := Lib.hid ((BB0.out _).trans (l2.mono (BB0.out _).size))
                clear l2
                go_wp2_with fail
                go_ret
                exact ⟨ret_q (by rw [HE.out, HE2.out, HR.out]), (boxed HW.out BB.out).2.2.2.2.2.2.1⟩
          · rw [ha] at AM
            have HP := Lib.hid (show memQ f g d j = 13 by unfold memQ; rw [if_neg (by rw [hv]; simp), if_pos ha])
            have HE2 := Lib.hid (firstE_stop (p := memQ f g d) HZ.out (by rw [HP.out]; decide) hlt)
            clear hit hnm kc hiv hv ha AM0 C0
            go_wp2_with fail
            refine CU.out.mono ?_
            rintro e w2 ⟨rfl, rfl⟩
            go_wp2_with fail
            go_quiet ((go_at_call 48; exact Calls.quiet_of_same ((AM.out _ (HC.out _)).mono fun e w' ⟨he, hw⟩ => ⟨he, hw.symm⟩)))
            all_goals
              go_wp2_with fail
              go_ret
              exact ⟨ret_q (by rw [HE.out, HE2.out, HP.out]), below_dN HLB.out⟩
      · obtain rfl : j = m := by omega
        have HI := Lib.hid hit
        have HN := Lib.hid hnm
        have HK := Lib.hid kc
        clear hit hnm kc
        go_wp2_with fail
        go_ret
        exact ⟨ret_q (by rw [HE.out, HZ.out]), HLB.out⟩
set_option maxHeartbeats 4000000 in
set_option maxRecDepth 100000 in
theorem refMay_mk (k : Int) (b : Bool) (n : Int) (s : ByteArray) (m : Nat) (f : Nat → VT) (q : Nat) (g : Nat → ByteArray) (ih : ∀ i, RefMayS (f i)) : RefMayS (.mk k b n s m f q g) := by
  intro ho cs d D w h hd hD
  obtain ⟨A, c, B, dd, rfl, hk, hn, hs, hmc, hc, hqd, hdd, hit, hnm⟩ := h
  obtain ⟨o1, o2, o3, o4⟩ := ho
  unfold In64 at hk hn
  unfold vCells
  by_cases h4 : k = 4
  · subst h4
    exact refMay_list b n s m f q g A c B dd d D w hs hmc hc hqd hdd o2 hd hD hit hnm (fun i hi => (o4 (.inl rfl) i hi).2) ih
  · by_cases h5 : k = 5
    · subst h5
      obtain rfl := o3 rfl
      exact refMay_object b n s q f g A c B dd d D w hs hmc hc hqd hdd o2 hd hD hit hnm (fun i hi => (o4 (.inr rfl) i hi).1 rfl) (fun i hi => (o4 (.inr rfl) i hi).2) ih
    · clear hit hnm ih o3 o4
      by_cases h0 : k = 0
      · subst h0
        have HE := Lib.hid (show mayV (.mk 0 b n s m f q g) d = 0 by rw [mayV]; simp)
        go_enter Tryd.func28, Tryd.ntmps28
        go_wp2_with fail
        go_ret
        exact ⟨ret_q (by rw [HE.out]), (Below.refl _ _).alloc (Nat.le_refl _) _⟩
      · by_cases h1 : k = 1
        · subst h1
          have HE := Lib.hid (show mayV (.mk 1 b n s m f q g) d = 0 by rw [mayV]; simp)
          go_enter Tryd.func28, Tryd.ntmps28
          go_wp2_with fail
          go_ret
          exact ⟨ret_q (by rw [HE.out]), (Below.refl _ _).alloc (Nat.le_refl _) _⟩
        · by_cases h2 : k = 2
          · subst h2
            cases hh : heldB n
            · have HE := Lib.hid (show mayV (.mk 2 b n s m f q g) d = 2 by rw [mayV]; simp [hh])
              have C := fun W => refHeld_any n W
              rw [hh] at C
              have HC := Lib.hid C
              clear C hh
              go_enter Tryd.func28, Tryd.ntmps28
              go_wp2_with fail
              refine (HC.out _).mono ?_
              rintro e w1 ⟨rfl, rfl⟩
              go_wp2_with fail
              go_ret
              exact ⟨ret_q (by rw [HE.out]), (Below.refl _ _).alloc (Nat.le_refl _) _⟩
            · have HE := Lib.hid (show mayV (.mk 2 b n s m f q g) d = 0 by rw [mayV]; simp [hh])
              have C := fun W => refHeld_any n W
              rw [hh] at C
              have HC := Lib.hid C
              clear C hh
              go_enter Tryd.func28, Tryd.ntmps28
              go_wp2_with fail
              refine (HC.out _).mono ?_
              rintro e w1 ⟨rfl, rfl⟩
              go_wp2_with fail
              go_ret
              exact ⟨ret_q (by rw [HE.out]), (Below.refl _ _).alloc (Nat.le_refl _) _⟩
          · by_cases h3 : k = 3
            · subst h3
              cases hh : utfB s
              · have HE := Lib.hid (show mayV (.mk 3 b n s m f q g) d = 11 by rw [mayV]; simp [hh])
                have C := fun W => utf_any s W (by omega)
                rw [hh] at C
                have HC := Lib.hid C
                clear C hh
                go_enter Tryd.func28, Tryd.ntmps28
                go_wp2_with fail
                refine (HC.out _).mono ?_
                rintro e w1 ⟨rfl, rfl⟩
                go_wp2_with fail
                go_ret
                exact ⟨ret_q (by rw [HE.out]), (Below.refl _ _).alloc (Nat.le_refl _) _⟩
              · have HE := Lib.hid (show mayV (.mk 3 b n s m f q g) d = 0 by rw [mayV]; simp [hh])
                have C := fun W => utf_any s W (by omega)
                rw [hh] at C
                have HC := Lib.hid C
                clear C hh
                go_enter Tryd.func28, Tryd.ntmps28
                go_wp2_with fail
                refine (HC.out _).mono ?_
                rintro e w1 ⟨rfl, rfl⟩
                go_wp2_with fail
                go_ret
                exact ⟨ret_q (by rw [HE.out]), (Below.refl _ _).alloc (Nat.le_refl _) _⟩
            · have e0 : (k == 0) = false := by simp; omega
              have e1 : (k == 1) = false := by simp; omega
              have e2 : (k == 2) = false := by simp; omega
              have e3 : (k == 3) = false := by simp; omega
              have e4 : (k == 4) = false := by simp; omega
              have e5 : (k == 5) = false := by simp; omega
              have HE := Lib.hid (show mayV (.mk k b n s m f q g) d = 14 by rw [mayV, if_neg (by omega), if_neg (by omega), if_neg (by omega), if_neg (by omega)])
              go_enter Tryd.func28, Tryd.ntmps28
              go_wp2_with fail
              go_ret
              exact ⟨ret_q (by rw [HE.out]), (Below.refl _ _).alloc (Nat.le_refl _) _⟩
theorem refMay_rec : ∀ t : VT, RefMayS t
  | .no => fun _ _ _ _ _ h => h.elim
  | .mk k b n s m f q g => refMay_mk k b n s m f q g fun i => refMay_rec (f i)
set_option maxHeartbeats 2000000 in
theorem refMay_any (t : VT) (cs : Array Value) (w : World) (ho : OkV t) (h : InV w t cs) : Calls Tryd.prog 14 #[.agg cs] w fun e w' => e = .returned (.int .i64 (mayV t 0)) ∧ Below w.heap.size w w' := by
  rcases t with _ | ⟨k, b, n, s, m, f, q, g⟩
  · exact h.elim
  have h' := h
  obtain ⟨A, c, B, d, rfl, _⟩ := h
  have H := Lib.hid h'
  clear h'
  unfold vCells at *
  obtain ⟨W1, hW1⟩ : ∃ W1, W1 = w.alloc (.cells #[.int .i64 k, .bool b, .int .i64 n, .string s, .slice A m c, .slice B q d] 25) := ⟨_, rfl⟩
  have hl : Below w.heap.size w W1 := by rw [hW1]; exact (Below.refl w.heap.size w).alloc (Nat.le_refl _) _
  have HL := Lib.hid hl
  have HW := Lib.hid hW1
  have hC := refMay_rec (.mk k b n s m f q g) ho _ 0 0 W1 (H.out.keep (KeepC.below hl)) (by omega) rfl
  rw [hW1] at hC
  have HC := Lib.hid hC
  clear hl hW1 hC
  go_enter Tryd.func14, Tryd.ntmps14
  go_wp2_with fail
  refine HC.out.mono ?_
  rintro e w2 ⟨rfl, l2⟩
  have HL2 := Lib.hid l2
  clear l2
  go_wp2_with fail
  go_ret
  refine ⟨rfl, ?_⟩
  have := HL2.out
  rw [← HW.out] at this
  exact HL.out.trans (this.mono HL.out.size)
end Go.Proofs.YtpmhefdalhohdaaDoor
