/- NumShifts: the walk. -/
import Derived.Test.YtoeddhkbifeamaaDoorNShiftM
import Derived.Test.YtoeddhkbifeamaaDoorNAwake
import Derived.LoopTactic
namespace Go.Proofs.YtoeddhkbifeamaaDoor
open Go.RowKit
set_option linter.unusedVariables false

theorem parse_at (s : ByteArray) (v : Int × Int) (h : parse2 s = v) (hs : s.size ≤ 9223372036854775807) (W : World) :
    Calls Tryd.prog 9 #[.string s] W fun e w' => e = .returned (.tuple #[.int .i64 v.1, .int .i64 v.2]) ∧ Below W.heap.size W w' := by
  subst h
  exact parse_any s W hs
theorem byte_ne {c : UInt8} {k : Nat} (hk : k < 256) (h : c.toNat ≠ k) : c ≠ UInt8.ofNat k := by
  rintro rfl
  rw [UInt8.toNat_ofNat'] at h
  omega
theorem eq_test (c : UInt8) (k : Nat) (h : c.toNat = k) : ((c.toNat : Int) == (k : Int)) = true := by simp [h]
theorem ne_test (c : UInt8) (k : Nat) (h : c.toNat ≠ k) : ((c.toNat : Int) == (k : Int)) = false := by
  rw [beq_eq_false_iff_ne]
  omega
theorem app_data (s : ByteArray) (l : Array UInt8) : (s ++ ⟨l⟩).data.toList = s.data.toList ++ l.toList := by simp
/-- What Parse tells of the four texts. -/
structure Four (s : ByteArray) (n e l h : Int) : Prop where
  a : parse2 s = (n, e)
  b : parse2 (s ++ ⟨#[101, 48]⟩) = (n, e)
  c : parse2 (s ++ ⟨#[46, 48, 48]⟩) = (n, e)
  d : parse2 (s ++ ⟨#[48, 69, 45, 49]⟩) = (l, h)
  z : s.toList = [48] ∨ s.toList = [45, 48] ∨ ((s.toList == [48]) = false ∧ (s.toList == [45, 48]) = false ∧ l = n ∧ h = e)
theorem four_of (s : ByteArray) (hs : s.size ≤ 200) (h0 : s.size ≠ 0) (hc : (cutP s).length = s.size) (hno : ∀ j (h : j < s.size), (s[j]'h).toNat ≠ 101 ∧ (s[j]'h).toNat ≠ 69 ∧ (s[j]'h).toNat ≠ 46) : ∃ n e l h, Four s n e l h := by
  obtain ⟨P, D, hl, hP, hD⟩ := shape_of s hc h0 (fun c hc => by
    obtain ⟨j, hj, rfl⟩ := List.getElem_of_mem hc
    have hj2 : j < s.size := by simpa using hj
    rw [byteOf s j hj2]
    have := hno j hj2
    exact ⟨byte_ne (k := 101) (by decide) this.1, byte_ne (k := 69) (by decide) this.2.1, byte_ne (k := 46) (by decide) this.2.2⟩)
  have hlen : P.length + D.length ≤ 300 := by
    have : P.length + D.length = s.size := by rw [← List.length_append, ← hl]; simp
    omega
  refine ⟨_, _, (parse2 (s ++ ⟨#[48, 69, 45, 49]⟩)).1, (parse2 (s ++ ⟨#[48, 69, 45, 49]⟩)).2, shift_plain hP hD hlen s hl, shift_e0 hP hD hlen _ (by rw [app_data, hl]) _, shift_00 hP hD hlen _ (by rw [app_data, hl]) _, rfl, ?_⟩
  rw [Lib.toList_data, hl]
  by_cases hz : ∃ m, D = 48 :: m
  · obtain ⟨m, hm⟩ := hz
    have := hD.zero 48 m hm rfl
    subst this hm
    rcases hP with rfl | rfl
    · exact .inr (.inl rfl)
    · exact .inl rfl
  · have hz2 : ∀ m, D ≠ 48 :: m := fun m e => hz ⟨m, e⟩
    have h4 := shift_0e hP hD hlen hz2 (s ++ ⟨#[48, 69, 45, 49]⟩) (by rw [app_data, hl]) (P.length + D.length)
    refine .inr (.inr ⟨?_, ?_, by rw [h4], by rw [h4]⟩)
    · rw [beq_eq_false_iff_ne]
      intro e
      rcases hP with rfl | rfl
      · cases e
      · exact hz2 [] e
    · rw [beq_eq_false_iff_ne]
      intro e
      rcases hP with rfl | rfl
      · injection e with _ e
        exact hz2 [] e
      · rw [List.nil_append] at e
        have h45 := hD.figs 45 (by rw [e]; simp)
        revert h45
        decide
theorem scan_at (s : ByteArray) (n : Nat) (h : (cutP s).length = n) (hs : s.size ≤ 9223372036854775807) (W : World) :
    Calls Tryd.prog 11 #[.string s] W fun e w' => e = .returned (.int .i64 n) ∧ Below W.heap.size W w' := by
  subst h
  exact scan_any s W hs
def Law (w : World) (r : Ending) (w' : World) : Prop := r = .returned (.bool true) ∧ Below w.heap.size w w'
set_option maxHeartbeats 4000000 in
set_option maxRecDepth 100000 in
theorem numShifts_walk (s : ByteArray) (w : World) (ht : TabW w) (hs : s.size ≤ 9223372036854775807) :
    Calls Tryd.prog 7 #[.string s] w (Law w) := by
  have H := Lib.hid ht
  clear ht
  by_cases hb : 200 < s.size
  · go_enter Tryd.func7, Tryd.ntmps7
    go_wp2
    go_ret
    exact ⟨rfl, Below.refl _ _⟩
  · obtain ⟨q, hq⟩ : ∃ q, (cutP s).length = q := ⟨_, rfl⟩
    have H1 := Lib.hid fun W => scan_at s q hq hs W
    have HQ := Lib.hid hq
    have hsI : (s.size : Int) ≤ 200 := by omega
    by_cases hqs : q = s.size
    · subst hqs
      have t1 : ((s.size : Int) != (s.size : Int)) = false := by simp
      by_cases h0 : s.size = 0
      · have t2 : ((s.size : Int) == 0) = true := by rw [h0]; rfl
        clear h0 hq
        go_enter Tryd.func7, Tryd.ntmps7
        go_wp2_with fail
        refine (H1.out _).mono ?_
        rintro _ w1 ⟨rfl, l1⟩
        have L1 := Lib.hid l1
        clear l1
        go_wp2_with fail
        refine (awake_any _ (H.out.below L1.out)).mono ?_
        rintro _ w2 ⟨rfl, l2⟩
        have L2 := Lib.hid (L1.out.trans (l2.mono L1.out.size))
        clear l2
        go_wp2
        go_ret
        exact ⟨rfl, L2.out⟩
      · have t2 : ((s.size : Int) == 0) = false := by rw [beq_eq_false_iff_ne]; omega
        have H0 := Lib.hid h0
        have HB : Hid (s.size ≤ 200) := Lib.hid (by omega)
        clear h0 hq hb
        go_enter Tryd.func7, Tryd.ntmps7
        go_wp2_with fail
        refine (H1.out _).mono ?_
        rintro _ w1 ⟨rfl, l1⟩
        have L1 := Lib.hid l1
        clear l1
        go_wp2_with fail
        clear t1 t2
        go_loop [3] (fun i => ∃ k : Nat, i = .int .i64 k ∧ k ≤ s.size ∧ ∀ j (h : j < s.size), j < k → (s[j]'h).toNat ≠ 101 ∧ (s[j]'h).toNat ≠ 69 ∧ (s[j]'h).toNat ≠ 46) (fun i => s.size - (intOf i).toNat)
        case atStart => exact ⟨0, rfl, by omega, fun j _ h => absurd h (by omega)⟩
        case round =>
          obtain ⟨k, rfl, hk, hall⟩ := hrel
          have HA := Lib.hid hall
          clear hall
          by_cases hlt : k < s.size
          · by_cases b1 : (s[k]'hlt).toNat = 101
            · have t1 : ((((s[k]'hlt).toNat : Nat) : Int) == 101) = true := eq_test _ 101 b1
              clear b1
              go_wp2_with fail
              refine (awake_any _ (H.out.below L1.out)).mono ?_
              rintro _ w2 ⟨rfl, l2⟩
              have L2 := Lib.hid (L1.out.trans (l2.mono L1.out.size))
              clear l2
              go_wp2
              go_ret
              exact ⟨rfl, L2.out⟩
            · by_cases b2 : (s[k]'hlt).toNat = 69
              · have t1 : ((((s[k]'hlt).toNat : Nat) : Int) == 101) = false := ne_test _ 101 b1
                have t2 : ((((s[k]'hlt).toNat : Nat) : Int) == 69) = true := eq_test _ 69 b2
                clear b1 b2
                go_wp2_with fail
                refine (awake_any _ (H.out.below L1.out)).mono ?_
                rintro _ w2 ⟨rfl, l2⟩
                have L2 := Lib.hid (L1.out.trans (l2.mono L1.out.size))
                clear l2
                go_wp2
                go_ret
                exact ⟨rfl, L2.out⟩
              · by_cases b3 : (s[k]'hlt).toNat = 46
                · have t1 : ((((s[k]'hlt).toNat : Nat) : Int) == 101) = false := ne_test _ 101 b1
                  have t2 : ((((s[k]'hlt).toNat : Nat) : Int) == 69) = false := ne_test _ 69 b2
                  have t3 : ((((s[k]'hlt).toNat : Nat) : Int) == 46) = true := eq_test _ 46 b3
                  clear b1 b2 b3
                  go_wp2_with fail
                  refine (awake_any _ (H.out.below L1.out)).mono ?_
                  rintro _ w2 ⟨rfl, l2⟩
                  have L2 := Lib.hid (L1.out.trans (l2.mono L1.out.size))
                  clear l2
                  go_wp2
                  go_ret
                  exact ⟨rfl, L2.out⟩
                · have t1 : ((((s[k]'hlt).toNat : Nat) : Int) == 101) = false := ne_test _ 101 b1
                  have t2 : ((((s[k]'hlt).toNat : Nat) : Int) == 69) = false := ne_test _ 69 b2
                  have t3 : ((((s[k]'hlt).toNat : Nat) : Int) == 46) = false := ne_test _ 46 b3
                  have HN : Hid (∀ j (h : j < s.size), j < k + 1 → (s[j]'h).toNat ≠ 101 ∧ (s[j]'h).toNat ≠ 69 ∧ (s[j]'h).toNat ≠ 46) := Lib.hid fun j h hj => by
                    by_cases e : j = k
                    · subst e; exact ⟨b1, b2, b3⟩
                    · exact HA.out j h (by omega)
                  clear b1 b2 b3
                  go_wp2
                  go_round
                  case rel => exact ⟨k + 1, by go_num, by omega, HN.out⟩
                  case measure => simp [intOf]; omega
          · obtain rfl : k = s.size := by omega
            obtain ⟨n, e, l, h, F⟩ := four_of s HB.out H0.out HQ.out (fun j h => HA.out j h h)
            have K1 := Lib.hid fun W => parse_at s _ F.a (by omega) W
            have K2 := Lib.hid fun W => parse_at _ _ F.b (by rw [ByteArray.size_append]; show s.size + 2 ≤ _; omega) W
            have K3 := Lib.hid fun W => parse_at _ _ F.c (by rw [ByteArray.size_append]; show s.size + 3 ≤ _; omega) W
            have K4 := Lib.hid fun W => parse_at _ _ F.d (by rw [ByteArray.size_append]; show s.size + 4 ≤ _; omega) W
            have hz := F.z
            have q1 : (n == n) = true := by simp
            have q2 : (e == e) = true := by simp
            clear F
            go_wp2_with fail
            refine (K1.out _).mono ?_
            rintro _ w2 ⟨rfl, l2⟩
            have L2 := Lib.hid (L1.out.trans (l2.mono L1.out.size))
            clear l2
            go_wp2_with fail
            refine (K2.out _).mono ?_
            rintro _ w3 ⟨rfl, l3⟩
            have L3 := Lib.hid (L2.out.trans (l3.mono L2.out.size))
            clear l3
            go_wp2_with fail
            refine (K3.out _).mono ?_
            rintro _ w4 ⟨rfl, l4⟩
            have L4 := Lib.hid (L3.out.trans (l4.mono L3.out.size))
            clear l4
            go_wp2_with fail
            refine (K4.out _).mono ?_
            rintro _ w5 ⟨rfl, l5⟩
            have L5 := Lib.hid (L4.out.trans (l5.mono L4.out.size))
            clear l5
            clear K1 K2 K3 K4
            rcases hz with hz | hz | ⟨z1, z2, rfl, rfl⟩
            · have z1 : (s.toList == [48]) = true := by rw [hz]; rfl
              clear hz
              go_wp2_with fail
              refine (awake_any _ (H.out.below L5.out)).mono ?_
              rintro _ w6 ⟨rfl, l6⟩
              have L6 := Lib.hid (L5.out.trans (l6.mono L5.out.size))
              clear l6
              go_wp2
              go_ret
              exact ⟨rfl, L6.out⟩
            · have z1 : (s.toList == [48]) = false := by rw [hz]; rfl
              have z2 : (s.toList == [45, 48]) = true := by rw [hz]; rfl
              clear hz
              go_wp2_with fail
              refine (awake_any _ (H.out.below L5.out)).mono ?_
              rintro _ w6 ⟨rfl, l6⟩
              have L6 := Lib.hid (L5.out.trans (l6.mono L5.out.size))
              clear l6
              go_wp2
              go_ret
              exact ⟨rfl, L6.out⟩
            · go_wp2_with fail
              refine (awake_any _ (H.out.below L5.out)).mono ?_
              rintro _ w6 ⟨rfl, l6⟩
              have L6 := Lib.hid (L5.out.trans (l6.mono L5.out.size))
              clear l6
              go_wp2
              go_ret
              exact ⟨rfl, L6.out⟩
    · have t1 : ((q : Int) != (s.size : Int)) = true := by simp; omega
      clear hqs hq
      go_enter Tryd.func7, Tryd.ntmps7
      go_wp2_with fail
      refine (H1.out _).mono ?_
      rintro _ w1 ⟨rfl, l1⟩
      have L1 := Lib.hid l1
      clear l1
      go_wp2_with fail
      refine (awake_any _ (H.out.below L1.out)).mono ?_
      rintro _ w2 ⟨rfl, l2⟩
      have L2 := Lib.hid (L1.out.trans (l2.mono L1.out.size))
      clear l2
      go_wp2
      go_ret
      exact ⟨rfl, L2.out⟩
end Go.Proofs.YtoeddhkbifeamaaDoor
