/- geom's mayAll, the document's MayAll: the walks. -/
import Derived.Test.YtihigingddaopaaDoorGMay
namespace Go.Proofs.YtihigingddaopaaDoor
open Go.RowKit
set_option linter.unusedVariables false

set_option maxRecDepth 100000 in
set_option maxHeartbeats 4000000 in
theorem all_any (A : Option Addr) (n c : Nat) (F : Nat → Pt) (w : World) (hP : Pts w A n F) : Calls Tryd.prog 20 #[.slice A n c] w fun e w' => e = .returned (.bool (allB F n)) ∧ Below w.heap.size w w' := by
  have hn := hP.1
  have HP := Lib.hid hP
  clear hP
  go_enter Tryd.func20, Tryd.ntmps20
  go_wp2
  go_loopw [7] (fun i wr => ∃ k : Nat, i = .int .i64 k ∧ k ≤ n ∧ allB F k = true ∧ Below w.heap.size w wr) (fun i _ => n - (intOf i).toNat)
  case atStart => exact ⟨0, rfl, by omega, rfl, Below.refl _ _⟩
  case round =>
    obtain ⟨k, rfl, hk, ha, hb⟩ := hrel
    obtain ⟨wo, hwo⟩ : ∃ wo, wo = wr := ⟨_, rfl⟩
    subst hwo
    have HB := Lib.hid hb
    have HA := Lib.hid ha
    clear hb ha
    by_cases hlt : k < n
    · obtain ⟨b, o, rfl, hc⟩ := HP.out.2 (by omega)
      obtain ⟨c0, c1⟩ := hc k hlt
      have d0 := kp' HB.out (cell_lt' c0) c0
      have d1 := kp' HB.out (cell_lt' c1) c1
      obtain ⟨p, hp⟩ : ∃ p, p = F k := ⟨_, rfl⟩
      rw [← hp] at d0 d1
      have hkI : (k : Int) < n := by omega
      have hk1 : ((k : Int) + 1) ≤ 9223372036854775807 := by omega
      have K := fun W => may_any p W
      have HPE := Lib.hid hp
      clear c0 c1 hc hp
      cases hm : mayB p
      · rw [hm] at K
        have KH := Lib.hid K
        have HM := Lib.hid hm
        clear K hm
        go_wp2_with (go_at_call 27; (with_reducible refine (KH.out _).mono ?_); rintro e w' ⟨rfl, l⟩; have L := Lib.hid l; clear l)
        go_ret
        exact ⟨ret_b (by rw [allB_no hlt (by rw [← HPE.out]; exact HM.out)]), below2' (HB.out.trans ((Below.refl _ _).alloc HB.out.size _)) L.out⟩
      · rw [hm] at K
        have KH := Lib.hid K
        have HM := Lib.hid hm
        clear K hm
        go_wp2_with (go_at_call 27; (with_reducible refine (KH.out _).mono ?_); rintro e w' ⟨rfl, l⟩; have L := Lib.hid l; clear l)
        go_roundw
        case rel => exact ⟨k + 1, by first | rfl | go_num, by omega, by unfold allB; rw [HA.out, ← HPE.out, HM.out]; rfl, below2' (HB.out.trans ((Below.refl _ _).alloc HB.out.size _)) L.out⟩
        case measure => simp [intOf]; omega
    · have e : k = n := by omega
      have HE := Lib.hid e
      have hge : ¬ (k : Int) < n := by omega
      clear e
      go_wp2
      go_ret
      exact ⟨ret_b (by rw [← HE.out, HA.out]), HB.out⟩
set_option maxRecDepth 100000 in
set_option maxHeartbeats 4000000 in
theorem refAll_any (A : Option Addr) (n c : Nat) (F : Nat → Pt) (w : World) (hP : Pts w A n F) : Calls Tryd.prog 26 #[.slice A n c] w fun e w' => e = .returned (.bool (allB F n)) ∧ Below w.heap.size w w' := by
  have hn := hP.1
  have HP := Lib.hid hP
  clear hP
  go_enter Tryd.func26, Tryd.ntmps26
  go_wp2
  go_loopw [3] (fun i wr => ∃ k : Nat, i = .int .i64 k ∧ k ≤ n ∧ allB F k = true ∧ Below w.heap.size w wr) (fun i _ => n - (intOf i).toNat)
  case atStart => exact ⟨0, rfl, by omega, rfl, Below.refl _ _⟩
  case round =>
    obtain ⟨k, rfl, hk, ha, hb⟩ := hrel
    obtain ⟨wo, hwo⟩ : ∃ wo, wo = wr := ⟨_, rfl⟩
    subst hwo
    have HB := Lib.hid hb
    have HA := Lib.hid ha
    clear hb ha
    by_cases hlt : k < n
    · obtain ⟨b, o, rfl, hc⟩ := HP.out.2 (by omega)
      obtain ⟨c0, c1⟩ := hc k hlt
      have d0 := kp' HB.out (cell_lt' c0) c0
      have d1 := kp' HB.out (cell_lt' c1) c1
      obtain ⟨p, hp⟩ : ∃ p, p = F k := ⟨_, rfl⟩
      rw [← hp] at d0 d1
      have hkI : (k : Int) < n := by omega
      have hk1 : ((k : Int) + 1) ≤ 9223372036854775807 := by omega
      have K := fun W => refMay_any p W
      have HPE := Lib.hid hp
      clear c0 c1 hc hp
      cases hm : mayB p
      · rw [hm] at K
        have KH := Lib.hid K
        have HM := Lib.hid hm
        clear K hm
        go_wp2_with (go_at_call 40; (with_reducible refine (KH.out _).mono ?_); rintro e w' ⟨rfl, l⟩; have L := Lib.hid l; clear l)
        go_ret
        exact ⟨ret_b (by rw [allB_no hlt (by rw [← HPE.out]; exact HM.out)]), below2' HB.out L.out⟩
      · rw [hm] at K
        have KH := Lib.hid K
        have HM := Lib.hid hm
        clear K hm
        go_wp2_with (go_at_call 40; (with_reducible refine (KH.out _).mono ?_); rintro e w' ⟨rfl, l⟩; have L := Lib.hid l; clear l)
        go_roundw
        case rel => exact ⟨k + 1, by first | rfl | go_num, by omega, by unfold allB; rw [HA.out, ← HPE.out, HM.out]; rfl, below2' HB.out L.out⟩
        case measure => simp [intOf]; omega
    · have e : k = n := by omega
      have HE := Lib.hid e
      have hge : ¬ (k : Int) < n := by omega
      clear e
      go_wp2
      go_ret
      exact ⟨ret_b (by rw [← HE.out, HA.out]), HB.out⟩
end Go.Proofs.YtihigingddaopaaDoor
