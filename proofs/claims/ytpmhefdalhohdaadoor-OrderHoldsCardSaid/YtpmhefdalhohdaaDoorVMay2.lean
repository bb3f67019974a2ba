/- json.may: items, members, any value. -/
import Derived.Test.YtpmhefdalhohdaaDoorVMay
namespace Go.Proofs.YtpmhefdalhohdaaDoor
open Go.RowKit
set_option linter.unusedVariables false

/-- No list within a value is too long for a count. -/
def Small : VT → Prop
  | .no => True
  | .mk k _ _ _ m f _ _ => (k = 4 ∨ k = 5) → m ≤ 1000000000 ∧ ∀ i, i < m → Small (f i)
theorem OkV.small : ∀ {t : VT}, OkV t → Small t
  | .no, _ => trivial
  | .mk k b n s m f q g, h => fun hk => ⟨by have := h.2.1; omega, fun i hi => OkV.small (h.2.2.2 hk i hi).2⟩
def MayS (t : VT) : Prop := Small t → ∀ (v : Value) (S : Nat → Prop) (d : Nat) (D : Int) (w : World), HasJ w S t v → (∀ x, S x → x < w.heap.size) → d ≤ 32 → D = d → TabU w →
  Calls Tryd.prog 38 #[v, .int .i64 D] w fun e w' => e = .returned (.int .i64 (mayV t d)) ∧ Below w.heap.size w w'
theorem ret_i {a b : Int} (h : a = b) : Ending.returned (.int .i64 a) = .returned (.int .i64 b) := by rw [h]
/-- An item's cell, as the walk spells its place. -/
theorem any_at {w wr : World} {S : Nat → Prop} {A : Option Addr} {m : Nat} {f : Nat → VT} (hit : ∀ i, i < m → ∃ u, HasJ w S (f i) u ∧ cellAt w A i = some u) (hS : ∀ x, S x → x < w.heap.size) (hb : Below w.heap.size w wr) {j : Nat} (hj : j < m) :
    ∃ xb o u, A = some ⟨xb, o, none⟩ ∧ HasJ wr S (f j) u ∧ wr.cell? ⟨xb, o + j, none⟩ = some u := by
  obtain ⟨u, h1, h2⟩ := hit j hj
  obtain ⟨xb, o, rfl⟩ := cellAt_inv h2
  exact ⟨xb, o, u, rfl, h1.below hS hb, KeepC.below hb _ _ h2⟩
set_option maxHeartbeats 2000000 in
set_option maxRecDepth 100000 in
theorem items_any (f : Nat → VT) (m : Nat) (A : Option Addr) (c : Nat) (S : Nat → Prop) (d : Nat) (D : Int) (w : World) (hit : ∀ i, i < m → ∃ u, HasJ w S (f i) u ∧ cellAt w A i = some u) (hS : ∀ x, S x → x < w.heap.size)
    (hmc : m ≤ c) (hc : c ≤ 9223372036854775807) (hd : d ≤ 32) (hD : D = d) (hT : TabU w) (hsm : ∀ i, i < m → Small (f i)) (ih : ∀ i, MayS (f i)) :
    Calls Tryd.prog 62 #[.slice A m c, .int .i64 D] w fun e w' => e = .returned (.int .i64 (if 32 ≤ d then 10 else firstE (fun i => mayV (f i) (d + 1)) m)) ∧ Below w.heap.size w w' := by
  by_cases h32 : 32 ≤ d
  · obtain rfl : d = 32 := by omega
    subst hD
    rw [if_pos h32]
    clear hit ih hS
    go_enter Tryd.func62, Tryd.ntmps62
    go_wp2_with fail
    go_ret
    exact ⟨rfl, Below.refl _ _⟩
  · rw [if_neg h32]
    have hD1 : D < 32 := by omega
    have hD2 : 0 ≤ D := by omega
    have hD3 : (D == 32) = false := by simp; omega
    have HDD := Lib.hid hD
    have HT := Lib.hid hT
    clear hD hT
    go_enter Tryd.func62, Tryd.ntmps62
    go_wp2_with fail
    go_loopw [12] (fun i wr => ∃ j : Nat, j ≤ m ∧ i = .int .i64 j ∧ firstE (fun i => mayV (f i) (d + 1)) j = 0 ∧ Below w.heap.size w wr) (fun i _ => m - (intOf i).toNat)
    case atStart => exact ⟨0, by omega, rfl, rfl, Below.refl _ _⟩
    case round =>
      obtain ⟨j, hj, rfl, hz, hb⟩ := hrel
      have HZ := Lib.hid hz
      have HB := Lib.hid hb
      clear hz hb
      by_cases hlt : j < m
      · obtain ⟨xb, o, u, rfl, hu, hcu⟩ := any_at hit hS HB.out hlt
        have C := Lib.hid (ih j (hsm j hlt) u S (d + 1) (D + 1) wr hu (fun x hx => Nat.lt_of_lt_of_le (hS x hx) HB.out.size) (by omega) (by have := HDD.out; omega) (HT.out.below HB.out))
        obtain ⟨R, hR⟩ : ∃ R, R = mayV (f j) (d + 1) := ⟨_, rfl⟩
        rw [← hR] at C
        have HR := Lib.hid hR
        have HI := Lib.hid hit
        clear hR hu hit
        by_cases h0 : R = 0
        · subst h0
          go_wp2_with fail
          refine C.out.mono ?_
          rintro e w2 ⟨rfl, l2⟩
          have HL2 := Lib.hid l2
          clear l2
          go_wp2_with fail
          go_roundw
          case rel => exact ⟨j + 1, by omega, by go_num, firstE_go HZ.out HR.out.symm, HB.out.trans (HL2.out.mono HB.out.size)⟩
          case measure => simp [intOf]; omega
        · have h1 : (R != 0) = true := by simpa using h0
          have HE := Lib.hid (firstE_stop (p := fun i => mayV (f i) (d + 1)) HZ.out (by rw [← HR.out]; exact h0) hlt)
          clear h0
          go_wp2_with fail
          refine C.out.mono ?_
          rintro e w2 ⟨rfl, l2⟩
          have HL2 := Lib.hid l2
          clear l2
          go_wp2_with fail
          go_ret
          exact ⟨ret_i (by rw [HE.out, ← HR.out]), HB.out.trans (HL2.out.mono HB.out.size)⟩
      · obtain rfl : j = m := by omega
        have HI := Lib.hid hit
        clear hit
        go_wp2_with fail
        go_ret
        exact ⟨ret_i (by rw [HZ.out]), HB.out⟩
def memP (f : Nat → VT) (g : Nat → ByteArray) (d : Nat) (i : Nat) : Int := if utfB (g i) = false then 11 else if amongB g (g i) i = true then 13 else mayV (f i) (d + 1)
set_option maxHeartbeats 4000000 in
set_option maxRecDepth 100000 in
theorem members_any (f : Nat → VT) (g : Nat → ByteArray) (m : Nat) (A : Option Addr) (c : Nat) (S : Nat → Prop) (d : Nat) (D : Int) (w : World) (hit : ∀ i, i < m → (g i).size ≤ 140737488351232 ∧ cellAt w A (2 * i) = some (.string (g i)) ∧ ∃ u, HasJ w S (f i) u ∧ cellAt w A (2 * i + 1) = some u) (hS : ∀ x, S x → x < w.heap.size)
    (hm : m ≤ 1000000000) (hmc : m ≤ c) (hc : c ≤ 9223372036854775807) (hd : d ≤ 32) (hD : D = d) (hT : TabU w) (hsm : ∀ i, i < m → Small (f i)) (ih : ∀ i, MayS (f i)) :
    Calls Tryd.prog 63 #[.slice A m c, .int .i64 D] w fun e w' => e = .returned (.int .i64 (if 32 ≤ d then 10 else firstE (memP f g d) m)) ∧ Below w.heap.size w w' := by
  by_cases h32 : 32 ≤ d
  · obtain rfl : d = 32 := by omega
    subst hD
    rw [if_pos h32]
    clear hit ih hS
    go_enter Tryd.func63, Tryd.ntmps63
    go_wp2_with fail
    go_ret
    exact ⟨rfl, Below.refl _ _⟩
  · rw [if_neg h32]
    have hD1 : D < 32 := by omega
    have hD2 : 0 ≤ D := by omega
    have hD3 : (D == 32) = false := by simp; omega
    have HDD := Lib.hid hD
    have HT := Lib.hid hT
    have hmm := @run_makeMap Tryd.prog
    clear hD hT
    go_enter Tryd.func63, Tryd.ntmps63
    go_wp2_with fail
    clear hmm
    go_loopw [15] (fun i wr => ∃ j : Nat, j ≤ m ∧ i = .int .i64 j ∧ firstE (memP f g d) j = 0 ∧ NameSet wr w.heap.size g j ∧ Below w.heap.size w wr ∧ w.heap.size < wr.heap.size) (fun i _ => m - (intOf i).toNat)
    case atStart => exact ⟨0, by omega, rfl, rfl, NameSet.made w g, (Below.refl _ _).alloc (Nat.le_refl _) _, by simp⟩
    case round =>
      obtain ⟨j, hj, rfl, hz, hns, hb, hsz⟩ := hrel
      have HZ := Lib.hid hz
      have HB := Lib.hid hb
      have HN := Lib.hid hns
      have HSZ := Lib.hid hsz
      clear hz hb hns hsz
      by_cases hlt : j < m
      · obtain ⟨gz, hc0, u, hu, hc1⟩ := hit j hlt
        obtain ⟨xb, o, rfl⟩ := cellAt_inv hc0
        have q0 : wr.cell? ⟨xb, o + j * 2, none⟩ = some (.string (g j)) := by rw [Nat.mul_comm]; exact KeepC.below HB.out _ _ hc0
        have q1 : wr.cell? ⟨xb, o + j * 2 + 1, none⟩ = some u := by rw [Nat.mul_comm j 2, Nat.add_assoc]; exact KeepC.below HB.out _ _ hc1
        have HI := Lib.hid hit
        have HU := Lib.hid (hu.below hS HB.out)
        have HU0 := Lib.hid hu
        have hone := HU.out.two
        clear hit hc0 hc1 hu
        rcases hone with rfl | ⟨T, ux, rfl⟩
        · have BA := Lib.hid (HB.out.alloc HB.out.size (.cells #[.string (g j), .nilIface] 58))
          have C1 := mayText_any (g j) _ gz (HT.out.below BA.out)
          have NA := Lib.hid (HN.out.below ((Below.refl _ _).alloc (Nat.le_refl _) (.cells #[.string (g j), .nilIface] 58)))
          have X0 := Lib.hid (show (wr.alloc (.cells #[.string (g j), .nilIface] 58)).cell? ⟨wr.heap.size, 0, none⟩ = some (.string (g j)) by simp)
          have X1 := Lib.hid (show (wr.alloc (.cells #[.string (g j), .nilIface] 58)).cell? ⟨wr.heap.size, 1, none⟩ = some .nilIface by simp)
          have XS := Lib.hid (show wr.heap.size < (wr.alloc (.cells #[.string (g j), .nilIface] 58)).heap.size by simp)
          cases hv : utfB (g j)
          all_goals
            rw [hv] at C1
            have HC1 := Lib.hid C1
            have HV := Lib.hid hv
            clear C1 hv
            go_wp2_with fail
            refine HC1.out.mono ?_
            rintro e w1 ⟨rfl, l1⟩
            have B1 := Lib.hid (BA.out.trans (l1.mono BA.out.size))
            have N1 := Lib.hid (NA.out.below l1)
            have k0 : w1.cell? ⟨wr.heap.size, 0, none⟩ = some (.string (g j)) := (l1.cell (p := ⟨wr.heap.size, 0, none⟩) XS.out).trans X0.out
            have k1 := Lib.hid ((l1.cell (p := ⟨wr.heap.size, 1, none⟩) XS.out).trans X1.out)
            have S1 := Lib.hid (Nat.lt_of_lt_of_le XS.out l1.size)
            clear l1
          · have HE := Lib.hid (show firstE (memP f g d) m = 11 by
              have e : memP f g d j = 11 := by unfold memP; rw [if_pos HV.out]
              rw [firstE_stop HZ.out (by rw [e]; decide) hlt, e])
            go_wp2_with fail
            go_ret
            exact ⟨ret_i (by rw [HE.out]), B1.out⟩
          · have C2 := Lib.hid (add_any w.heap.size g j w1 N1.out gz (by omega))
            cases ha : amongB g (g j) j
            all_goals
              have HA := Lib.hid ha
              clear ha
              go_wp2_with fail
              refine C2.out.mono ?_
              rintro e w2 ⟨he, hns2, hg2⟩
              rw [HA.out] at he
              subst he
              have B2 := Lib.hid (B1.out.grown hg2 B1.out.size (fun k hk => by cases hk; exact Nat.le_refl _))
              have k2 : w2.cell? ⟨wr.heap.size, 1, none⟩ = some .nilIface := hg2.cell k1.out (by intro e; injection e with e; have := HSZ.out; simp at e; omega)
              have S2 := Lib.hid (Nat.lt_of_lt_of_le (Nat.lt_trans HSZ.out S1.out) hg2.size)
              have N2 := Lib.hid hns2
              clear hns2 hg2
            · have C3 := Lib.hid (ih j (hsm j hlt) _ S (d + 1) (D + 1) w2 (HU0.out.below hS B2.out) (fun x hx => Nat.lt_of_lt_of_le (hS x hx) B2.out.size) (by omega) (by have := HDD.out; omega) (HT.out.below B2.out))
              obtain ⟨R, hR⟩ : ∃ R, R = mayV (f j) (d + 1) := ⟨_, rfl⟩
              rw [← hR] at C3
              have HP := Lib.hid (show memP f g d j = R by unfold memP; rw [if_neg (by rw [HV.out]; simp), if_neg (by rw [HA.out]; simp), hR])
              clear hR
              by_cases h0 : R = 0
              · subst h0
                go_wp2_with fail
                refine C3.out.mono ?_
                rintro e w3 ⟨rfl, l3⟩
                have HL3 := Lib.hid l3
                clear l3
                go_wp2_with fail
                go_roundw
                case rel => exact ⟨j + 1, by omega, by go_num, firstE_go HZ.out HP.out, (N2.out HA.out).below HL3.out, B2.out.trans (HL3.out.mono B2.out.size), Nat.lt_of_lt_of_le S2.out HL3.out.size⟩
                case measure => simp [intOf]; omega
              · have h1 : (R != 0) = true := by simpa using h0
                have HE := Lib.hid (firstE_stop (p := memP f g d) HZ.out (by rw [HP.out]; exact h0) hlt)
                clear h0
                go_wp2_with fail
                refine C3.out.mono ?_
                rintro e w3 ⟨rfl, l3⟩
                have HL3 := Lib.hid l3
                clear l3
                go_wp2_with fail
                go_ret
                exact ⟨ret_i (by rw [HE.out, HP.out]), B2.out.trans (HL3.out.mono B2.out.size)⟩
            · have HE := Lib.hid (show firstE (memP f g d) m = 13 by
                have e : memP f g d j = 13 := by unfold memP; rw [if_neg (by rw [HV.out]; simp), if_pos HA.out]
                rw [firstE_stop HZ.out (by rw [e]; decide) hlt, e])
              go_wp2_with fail
              go_ret
              exact ⟨ret_i (by rw [HE.out]), B2.out⟩
        · have BA := Lib.hid (HB.out.alloc HB.out.size (.cells #[.string (g j), (.iface T ux)] 58))
          have C1 := mayText_any (g j) _ gz (HT.out.below BA.out)
          have NA := Lib.hid (HN.out.below ((Below.refl _ _).alloc (Nat.le_refl _) (.cells #[.string (g j), (.iface T ux)] 58)))
          have X0 := Lib.hid (show (wr.alloc (.cells #[.string (g j), (.iface T ux)] 58)).cell? ⟨wr.heap.size, 0, none⟩ = some (.string (g j)) by simp)
          have X1 := Lib.hid (show (wr.alloc (.cells #[.string (g j), (.iface T ux)] 58)).cell? ⟨wr.heap.size, 1, none⟩ = some (.iface T ux) by simp)
          have XS := Lib.hid (show wr.heap.size < (wr.alloc (.cells #[.string (g j), (.iface T ux)] 58)).heap.size by simp)
          cases hv : utfB (g j)
          all_goals
            rw [hv] at C1
            have HC1 := Lib.hid C1
            have HV := Lib.hid hv
            clear C1 hv
            go_wp2_with fail
            refine HC1.out.mono ?_
            rintro e w1 ⟨rfl, l1⟩
            have B1 := Lib.hid (BA.out.trans (l1.mono BA.out.size))
            have N1 := Lib.hid (NA.out.below l1)
            have k0 : w1.cell? ⟨wr.heap.size, 0, none⟩ = some (.string (g j)) := (l1.cell (p := ⟨wr.heap.size, 0, none⟩) XS.out).trans X0.out
            have k1 := Lib.hid ((l1.cell (p := ⟨wr.heap.size, 1, none⟩) XS.out).trans X1.out)
            have S1 := Lib.hid (Nat.lt_of_lt_of_le XS.out l1.size)
            clear l1
          · have HE := Lib.hid (show firstE (memP f g d) m = 11 by
              have e : memP f g d j = 11 := by unfold memP; rw [if_pos HV.out]
              rw [firstE_stop HZ.out (by rw [e]; decide) hlt, e])
            go_wp2_with fail
            go_ret
            exact ⟨ret_i (by rw [HE.out]), B1.out⟩
          · have C2 := Lib.hid (add_any w.heap.size g j w1 N1.out gz (by omega))
            cases ha : amongB g (g j) j
            all_goals
              have HA := Lib.hid ha
              clear ha
              go_wp2_with fail
              refine C2.out.mono ?_
              rintro e w2 ⟨he, hns2, hg2⟩
              rw [HA.out] at he
              subst he
              have B2 := Lib.hid (B1.out.grown hg2 B1.out.size (fun k hk => by cases hk; exact Nat.le_refl _))
              have k2 : w2.cell? ⟨wr.heap.size, 1, none⟩ = some (.iface T ux) := hg2.cell k1.out (by intro e; injection e with e; have := HSZ.out; simp at e; omega)
              have S2 := Lib.hid (Nat.lt_of_lt_of_le (Nat.lt_trans HSZ.out S1.out) hg2.size)
              have N2 := Lib.hid hns2
              clear hns2 hg2
            · have C3 := Lib.hid (ih j (hsm j hlt) _ S (d + 1) (D + 1) w2 (HU0.out.below hS B2.out) (fun x hx => Nat.lt_of_lt_of_le (hS x hx) B2.out.size) (by omega) (by have := HDD.out; omega) (HT.out.below B2.out))
              obtain ⟨R, hR⟩ : ∃ R, R = mayV (f j) (d + 1) := ⟨_, rfl⟩
              rw [← hR] at C3
              have HP := Lib.hid (show memP f g d j = R by unfold memP; rw [if_neg (by rw [HV.out]; simp), if_neg (by rw [HA.out]; simp), hR])
              clear hR
              by_cases h0 : R = 0
              · subst h0
                go_wp2_with fail
                refine C3.out.mono ?_
                rintro e w3 ⟨rfl, l3⟩
                have HL3 := Lib.hid l3
                clear l3
                go_wp2_with fail
                go_roundw
                case rel => exact ⟨j + 1, by omega, by go_num, firstE_go HZ.out HP.out, (N2.out HA.out).below HL3.out, B2.out.trans (HL3.out.mono B2.out.size), Nat.lt_of_lt_of_le S2.out HL3.out.size⟩
                case measure => simp [intOf]; omega
              · have h1 : (R != 0) = true := by simpa using h0
                have HE := Lib.hid (firstE_stop (p := memP f g d) HZ.out (by rw [HP.out]; exact h0) hlt)
                clear h0
                go_wp2_with fail
                refine C3.out.mono ?_
                rintro e w3 ⟨rfl, l3⟩
                have HL3 := Lib.hid l3
                clear l3
                go_wp2_with fail
                go_ret
                exact ⟨ret_i (by rw [HE.out, HP.out]), B2.out.trans (HL3.out.mono B2.out.size)⟩
            · have HE := Lib.hid (show firstE (memP f g d) m = 13 by
                have e : memP f g d j = 13 := by unfold memP; rw [if_neg (by rw [HV.out]; simp), if_pos HA.out]
                rw [firstE_stop HZ.out (by rw [e]; decide) hlt, e])
              go_wp2_with fail
              go_ret
              exact ⟨ret_i (by rw [HE.out]), B2.out⟩
      · obtain rfl : j = m := by omega
        have HI := Lib.hid hit
        clear hit
        go_wp2_with fail
        go_ret
        exact ⟨ret_i (by rw [HZ.out]), HB.out⟩
theorem mayV_list {k n m q : _} {b s f g} (d : Nat) (hk : k = 4) : mayV (.mk k b n s m f q g) d = if 32 ≤ d then 10 else firstE (fun i => mayV (f i) (d + 1)) m := by
  subst hk
  rw [mayV]
  simp
theorem mayV_object {k n m q : _} {b s f g} (d : Nat) (hk : k = 5) : mayV (.mk k b n s m f q g) d = if 32 ≤ d then 10 else firstE (memP f g d) m := by
  subst hk
  rw [mayV]
  simp
  rfl
set_option maxHeartbeats 4000000 in
set_option maxRecDepth 100000 in
theorem may_mk (k : Int) (b : Bool) (n : Int) (s : ByteArray) (m : Nat) (f : Nat → VT) (q : Nat) (g : Nat → ByteArray) (ih : ∀ i, MayS (f i)) : MayS (.mk k b n s m f q g) := by
  intro hsm v S d D w h hS hd hD hT
  have HT := Lib.hid hT
  have HDD := Lib.hid hD
  have hD1 : D ≤ 32 := by omega
  have hD2 : 0 ≤ D := by omega
  clear hT hD
  rcases h with ⟨rfl, rfl⟩ | ⟨rfl, rfl⟩ | ⟨rfl, rfl, hn⟩ | ⟨rfl, rfl, hs⟩ | ⟨rfl, A, c, rfl, h2, h3, h4, h5⟩ | ⟨rfl, A, c, rfl, h2, h3, h4, h5⟩ | ⟨hk, rfl, hk2⟩
  · have HE := Lib.hid (show mayV (.mk 0 b n s m f q g) d = 0 by rw [mayV]; simp)
    clear ih hS hsm
    go_enter Tryd.func38, Tryd.ntmps38
    go_wp2_with fail
    go_ret
    exact ⟨ret_i (by rw [HE.out]), Below.refl _ _⟩
  · have HE := Lib.hid (show mayV (.mk 1 b n s m f q g) d = 0 by rw [mayV]; simp)
    clear ih hS hsm
    go_enter Tryd.func38, Tryd.ntmps38
    go_wp2_with fail
    go_ret
    exact ⟨ret_i (by rw [HE.out]), Below.refl _ _⟩
  · have HE := Lib.hid (show mayV (.mk 2 b n s m f q g) d = plusE n 0 by
      rw [mayV]
      unfold plusE
      rw [Int.add_zero]
      cases heldB n <;> simp <;> decide)
    unfold In64 at hn
    have C := Lib.hid (plus_any n 0 w hn (by omega))
    clear ih hS hsm
    go_enter Tryd.func38, Tryd.ntmps38
    go_wp2_with fail
    refine C.out.mono ?_
    rintro e w1 ⟨rfl, rfl⟩
    go_wp2_with fail
    go_ret
    exact ⟨ret_i (by rw [HE.out]), Below.refl _ _⟩
  · have HE := Lib.hid (show mayV (.mk 3 b n s m f q g) d = if utfB s = true then 0 else 11 by rw [mayV]; simp)
    have C0 := mayText_any s w hs HT.out
    rw [← HE.out] at C0
    have C := Lib.hid C0
    clear C0
    clear ih hS hsm
    go_enter Tryd.func38, Tryd.ntmps38
    go_wp2_with fail
    refine C.out.mono ?_
    rintro e w1 ⟨rfl, l1⟩
    have HL := Lib.hid l1
    clear l1
    go_wp2_with fail
    go_ret
    exact ⟨rfl, HL.out⟩
  · have HE := Lib.hid (mayV_list (k := 4) (b := b) (n := n) (s := s) (m := m) (f := f) (q := q) (g := g) d rfl)
    have C0 := items_any f m A c S d D w h5 hS h2 h3 hd HDD.out HT.out (hsm (.inl rfl)).2 ih
    rw [← HE.out] at C0
    have C := Lib.hid C0
    clear C0
    clear ih hS hsm h5 h4
    go_enter Tryd.func38, Tryd.ntmps38
    go_wp2_with fail
    refine C.out.mono ?_
    rintro e w1 ⟨rfl, l1⟩
    have HL := Lib.hid l1
    clear l1
    go_wp2_with fail
    go_ret
    exact ⟨rfl, HL.out⟩
  · have HE := Lib.hid (mayV_object (k := 5) (b := b) (n := n) (s := s) (m := m) (f := f) (q := q) (g := g) d rfl)
    have C0 := members_any f g m A c S d D w h5 hS (hsm (.inr rfl)).1 h2 h3 hd HDD.out HT.out (hsm (.inr rfl)).2 ih
    rw [← HE.out] at C0
    have C := Lib.hid C0
    clear C0
    clear ih hS hsm h5 h4
    go_enter Tryd.func38, Tryd.ntmps38
    go_wp2_with fail
    refine C.out.mono ?_
    rintro e w1 ⟨rfl, l1⟩
    have HL := Lib.hid l1
    clear l1
    go_wp2_with fail
    go_ret
    exact ⟨rfl, HL.out⟩
  · have HE := Lib.hid (show mayV (.mk k b n s m f q g) d = 14 by rw [mayV, if_neg (by omega), if_neg (by omega), if_neg (by omega), if_neg (by omega)])
    clear ih hS hsm
    go_enter Tryd.func38, Tryd.ntmps38
    go_wp2_with fail
    go_ret
    exact ⟨ret_i (by rw [HE.out]), Below.refl _ _⟩
theorem may_rec : ∀ t : VT, MayS t
  | .no => fun _ _ _ _ _ _ h => h.elim
  | .mk k b n s m f q g => may_mk k b n s m f q g fun i => may_rec (f i)
set_option maxHeartbeats 1000000 in
/-- json.May. -/
theorem may_any {t : VT} {v : Value} {S : Nat → Prop} {w : World} (hs : Small t) (h : HasJ w S t v) (hS : ∀ x, S x → x < w.heap.size) (hT : TabU w) :
    Calls Tryd.prog 26 #[v] w fun e w' => e = .returned (.int .i64 (mayV t 0)) ∧ Below w.heap.size w w' := by
  have C := Lib.hid (may_rec t hs v S 0 0 w h hS (by omega) rfl hT)
  clear h hS hT
  go_enter Tryd.func26, Tryd.ntmps26
  go_wp2_with fail
  refine C.out.mono ?_
  rintro e w1 ⟨rfl, l1⟩
  have HL := Lib.hid l1
  clear l1
  go_wp2_with fail
  go_ret
  exact ⟨rfl, HL.out⟩
end Go.Proofs.YtpmhefdalhohdaaDoor
