/- stem: what the ends ask for, as functions that are called. -/
import Derived.Test.YtoainljghfldlaaSMend
namespace Go.Proofs.Ytoainljghfldlaa
open Go.RowKit
set_option linter.unusedVariables false
set_option linter.unusedSimpArgs false

open Go.Shelf
attribute [local go_sem] Oper.semAt_some
def Ask.val (b b' : Nat) : Ask → Value
  | .always => .func (.func 24) #[] #[]
  | .above _ => .func (.func 35) #[] #[.pointer (some ⟨b, 0, none⟩)]
  | .voiced => .func (.func 27) #[] #[]
  | .behind => .func (.func 30) #[] #[.pointer (some ⟨b', 0, none⟩)]
  | .cvc => .func (.func 32) #[] #[]
def Ask.ok (W : World) (b b' : Nat) : Ask → Prop
  | .above m => W.cell? ⟨b, 0, none⟩ = some (.int .i64 (m : Nat)) ∧ m ≤ 10
  | .behind => W.cell? ⟨b', 0, none⟩ = some (.func (.func 35) #[] #[.pointer (some ⟨b, 0, none⟩)]) ∧ W.cell? ⟨b, 0, none⟩ = some (.int .i64 (1 : Nat))
  | _ => True
theorem Ask.ok_below {W W' : World} {b b' : Nat} {a : Ask} (h : a.ok W b b') (hb : Below W.heap.size W W') : a.ok W' b b' := by
  cases a with
  | above m => exact ⟨kp' hb (cell_lt' h.1) h.1, h.2⟩
  | behind => exact ⟨kp' hb (cell_lt' h.1) h.1, kp' hb (cell_lt' h.2) h.2⟩
  | always => trivial
  | voiced => trivial
  | cvc => trivial
theorem always_any (t : List UInt8) (w : World) : Calls Try.prog 24 #[.string (mkB t)] w fun e w' => e = .returned (.bool true) ∧ w' = w := by
  go_enter Try.func24, Try.ntmps24
  go_wp2
  go_ret
  exact ⟨rfl, rfl⟩
theorem above_any (m : Nat) (w : World) : Calls Try.prog 26 #[.int .i64 (m : Nat)] w fun e w' => e = .returned (.func (.func 35) #[] #[.pointer (some ⟨w.heap.size, 0, none⟩)]) ∧ w' = w.alloc (.cells #[.int .i64 (m : Nat)] 3) := by
  go_enter Try.func26, Try.ntmps26
  go_wp2
  go_ret
  exact ⟨rfl, rfl⟩
set_option maxHeartbeats 4000000 in
theorem above1_any (t : List UInt8) (ht : t.length ≤ 1000000) (m b : Nat) (w : World) (hm : w.cell? ⟨b, 0, none⟩ = some (.int .i64 (m : Nat))) :
    Calls Try.prog 35 #[.string (mkB t), .pointer (some ⟨b, 0, none⟩)] w fun e w' => e = .returned (.bool (decide (m < measL t))) ∧ Below w.heap.size w w' := by
  have KM := Lib.hid fun W (hb : Below w.heap.size w W) => (measure_any t ht W).mono (fun e w' h => (⟨h.1, hb.trans (h.2.mono hb.size)⟩ : e = _ ∧ Below w.heap.size w w'))
  have hlt := cell_lt' hm
  obtain ⟨k, hk⟩ : ∃ k, k = measL t := ⟨_, rfl⟩
  rw [← hk] at KM ⊢
  have HD := Lib.hid (show decide ((m : Int) < (k : Int)) = decide (m < k) by simp)
  clear hk
  go_enter Try.func35, Try.ntmps35
  go_wp2
  go_region_held_law (fun W => W.cell? ⟨b, 0, none⟩ = some (.int .i64 (m : Nat))) (first | exact hm | exact kp' hb5 hlt hm | go_keep) ((go_at_call 6; refine (KM.out _ (by first | exact Below.refl _ _ | exact (Below.refl _ _).drew)).mono ?_; rintro e w' ⟨rfl, hb5⟩))
  all_goals go_wp2
  all_goals go_ret
  all_goals exact ⟨by rw [← HD.out]; rfl, by first | exact hb5 | exact below_drewN hb5 _⟩
theorem sem_above (m : Nat) (t : List UInt8) : (Ask.above m).sem t = decide (m < measL t) := rfl
theorem behind_no {t : List UInt8} (h : decide (1 < measL t) = false) : Ask.behind.sem t = false := by show (decide (1 < measL t) && _) = false; rw [h]; rfl
theorem behind_yes {t : List UInt8} (h : decide (1 < measL t) = true) : Ask.behind.sem t = endsAny t [[115], [116]] := by show (decide (1 < measL t) && _) = _; rw [h]; rfl
set_option maxHeartbeats 4000000 in
theorem behind_any (t : List UInt8) (ht : t.length ≤ 1000000) (b b' : Nat) (w : World) (h0 : w.cell? ⟨b', 0, none⟩ = some (.func (.func 35) #[] #[.pointer (some ⟨b, 0, none⟩)])) (h1 : w.cell? ⟨b, 0, none⟩ = some (.int .i64 (1 : Nat))) :
    Calls Try.prog 30 #[.string (mkB t), .pointer (some ⟨b', 0, none⟩)] w fun e w' => e = .returned (.bool (Ask.behind.sem t)) ∧ Below w.heap.size w w' := by
  have KA := Lib.hid (above1_any t ht 1 b w h1)
  have KE := Lib.hid fun W g c h0 h1 => endsAny_any t (by omega) [[115], [116]] (by decide) (by decide) g c W (rdS2 W [115] [116] g h0 h1)
  have B0 := Lib.hid (Below.refl w.heap.size w)
  clear h1
  cases hs : decide (1 < measL t)
  · have HE := Lib.hid (behind_no hs)
    rw [hs] at KA
    clear hs KE
    go_enter Try.func30, Try.ntmps30
    go_wp2_with (go_at_call 35; refine KA.out.mono ?_; rintro e w1 ⟨rfl, hb1⟩; have B1 := Lib.hid hb1; clear hb1)
    go_ret
    exact ⟨by rw [HE.out]; rfl, B1.out⟩
  · have HE := Lib.hid (behind_yes hs)
    rw [hs] at KA
    clear hs
    go_enter Try.func30, Try.ntmps30
    go_wp2_with (first
      | (go_at_call 35; refine KA.out.mono ?_; rintro e w1 ⟨rfl, hb1⟩; have B1 := Lib.hid hb1; clear hb1)
      | (go_at_call 31; refine (KE.out _ _ _ (by go_simp <;> rfl) (by go_simp <;> rfl)).mono ?_; rintro e w2 ⟨rfl, hb1⟩; have B2 := Lib.hid (below_3 B1.out hb1); clear hb1))
    go_ret
    exact ⟨by rw [HE.out]; rfl, B2.out⟩
theorem cvcA_1 {t : List UInt8} (h : 1 < measL t) : Ask.cvc.sem t = true := by show (decide (1 < measL t) || _) = true; rw [decide_eq_true h]; rfl
theorem cvcA_2 {t : List UInt8} (h : measL t = 1) : Ask.cvc.sem t = !cvcL t := by show (decide (1 < measL t) || (decide (measL t = 1) && !cvcL t)) = _; rw [h]; rfl
theorem cvcA_3 {t : List UInt8} (h : measL t = 0) : Ask.cvc.sem t = false := by show (decide (1 < measL t) || (decide (measL t = 1) && !cvcL t)) = _; rw [h]; rfl
set_option maxHeartbeats 4000000 in
theorem cvcA_any (t : List UInt8) (ht : t.length ≤ 1000000) (w : World) : Calls Try.prog 32 #[.string (mkB t)] w fun e w' => e = .returned (.bool (Ask.cvc.sem t)) ∧ Below w.heap.size w w' := by
  have KM := Lib.hid fun W => measure_any t ht W
  have KC := Lib.hid fun W => cvc_any t ht W
  by_cases h1 : 1 < measL t
  · have HE := Lib.hid (cvcA_1 h1)
    obtain ⟨m, hm⟩ : ∃ m, m = measL t := ⟨_, rfl⟩
    rw [← hm] at KM h1
    have hi : (1 : Int) < (m : Int) := by omega
    clear h1 hm KC
    go_enter Try.func32, Try.ntmps32
    go_wp2_with (go_at_call 6; refine (KM.out _).mono ?_; rintro e w1 ⟨rfl, hb1⟩; have B1 := Lib.hid hb1; clear hb1)
    go_ret
    exact ⟨by rw [HE.out]; rfl, B1.out⟩
  · by_cases h2 : measL t = 1
    · have HE := Lib.hid (cvcA_2 h2)
      rw [h2] at KM
      clear h1 h2
      go_enter Try.func32, Try.ntmps32
      go_wp2_with (first
        | (go_at_call 6; refine (KM.out _).mono ?_; rintro e w1 ⟨rfl, hb1⟩; have B1 := Lib.hid hb1; clear hb1)
        | (go_at_call 33; refine (KC.out _).mono ?_; rintro e w2 ⟨rfl, hb1⟩; have B2 := Lib.hid (B1.out.trans (hb1.mono B1.out.size)); clear hb1))
      go_ret
      exact ⟨by rw [HE.out]; rfl, B2.out⟩
    · have h3 : measL t = 0 := by omega
      have HE := Lib.hid (cvcA_3 h3)
      rw [h3] at KM
      clear h1 h2 h3 KC
      go_enter Try.func32, Try.ntmps32
      go_wp2_with (go_at_call 6; refine (KM.out _).mono ?_; rintro e w1 ⟨rfl, hb1⟩; have B1 := Lib.hid hb1; clear hb1)
      go_ret
      exact ⟨by rw [HE.out]; rfl, B1.out⟩
end Go.Proofs.Ytoainljghfldlaa
