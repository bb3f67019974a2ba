/- The document's Held, Figures, Print. -/
import Derived.Test.YtoeddhkbifeamaaDoorNAwake
namespace Go.Proofs.YtoeddhkbifeamaaDoor
open Go.RowKit
set_option linter.unusedVariables false

theorem refHeld_any (n : Int) (w : World) : Calls Tryd.prog 29 #[.int .i64 n] w fun e w' => e = .returned (.bool (heldB n)) ∧ w = w' := by
  by_cases h1 : -9000000000000000000 ≤ n
  · by_cases h2 : n ≤ 9000000000000000000
    · rw [heldB_mk ⟨h1, h2⟩]
      go_enter Tryd.func29, Tryd.ntmps29
      go_wp2
      go_ret
      exact ⟨rfl, rfl⟩
    · rw [heldB_not (.inr (by omega))]
      go_enter Tryd.func29, Tryd.ntmps29
      go_wp2
      go_ret
      exact ⟨rfl, rfl⟩
  · rw [heldB_not (.inl (by omega))]
    go_enter Tryd.func29, Tryd.ntmps29
    go_wp2
    go_ret
    exact ⟨rfl, rfl⟩

theorem ten_cut (d : Nat) (h : d < 10) : (⟨#[48, 49, 50, 51, 52, 53, 54, 55, 56, 57]⟩ : ByteArray).extract d (d + 1) = ⟨#[UInt8.ofNat (48 + d)]⟩ := by
  have : ∀ d : Fin 10, ((⟨#[48, 49, 50, 51, 52, 53, 54, 55, 56, 57]⟩ : ByteArray).extract d.1 (d.1 + 1)).data.toList = [UInt8.ofNat (48 + d.1)] := by
    intro d
    rw [Lib.extract_data]
    revert d
    decide
  apply ByteArray.ext
  apply Array.toList_inj.1
  exact this ⟨d, h⟩
theorem cons_mk (c : UInt8) (l : List UInt8) : (⟨#[c]⟩ : ByteArray) ++ ⟨l.toArray⟩ = ⟨(c :: l).toArray⟩ := by
  apply ByteArray.ext
  apply Array.toList_inj.1
  simp
theorem app_mk (k l : List UInt8) : (⟨k.toArray⟩ : ByteArray) ++ ⟨l.toArray⟩ = ⟨(k ++ l).toArray⟩ := by
  apply ByteArray.ext
  apply Array.toList_inj.1
  simp
theorem ret_str {a b : ByteArray} (h : a = b) : Ending.returned (.string a) = .returned (.string b) := by rw [h]
theorem dec_step {m : Nat} (h : 10 ≤ m) (acc : List UInt8) : Lib.decDigits m ++ acc = Lib.decDigits (m / 10) ++ (UInt8.ofNat (48 + m % 10) :: acc) := by
  rw [Lib.decDigits, dif_neg (by omega), List.append_assoc]
  rfl
set_option maxHeartbeats 1000000 in
set_option maxRecDepth 100000 in
theorem figs_any (u : Nat) (w : World) (hu : u ≤ 9000000000000000000) :
    Calls Tryd.prog 30 #[.int .i64 u] w fun e w' => e = .returned (.string ⟨(Lib.decDigits u).toArray⟩) ∧ w = w' := by
  have HL := Lib.hid (dec_len u (by omega))
  go_enter Tryd.func30, Tryd.ntmps30
  go_wp2
  go_loop [0, 3] (fun n o => ∃ (m : Nat) (acc : List UInt8), n = .int .i64 m ∧ o = .string ⟨acc.toArray⟩ ∧ m ≤ 9000000000000000000 ∧ Lib.decDigits u = Lib.decDigits m ++ acc) (fun n _ => (intOf n).toNat)
  case atStart => exact ⟨u, [], rfl, rfl, hu, by simp⟩
  case round =>
    obtain ⟨m, acc, rfl, rfl, hm, hd⟩ := hrel
    obtain ⟨d, hde⟩ : ∃ d, d = m % 10 := ⟨_, rfl⟩
    have hd10 : d < 10 := by omega
    have hlen : acc.length ≤ 20 := by
      have := congrArg List.length hd
      rw [List.length_append] at this
      have h1 := HL.out.2
      omega
    have hlen2 : (⟨acc.toArray⟩ : ByteArray).size ≤ 20 := by rw [Lib.size_mk]; exact hlen
    obtain ⟨O, hO⟩ : ∃ O : ByteArray, O = ⟨acc.toArray⟩ := ⟨_, rfl⟩
    rw [← hO] at hlen2 ⊢
    have HO := Lib.hid hO
    have HD := Lib.hid hd
    clear hO hd hlen
    by_cases hb : 9 < m
    · have hx := ten_cut d hd10
      obtain ⟨X, hX⟩ : ∃ X : ByteArray, X = ⟨#[UInt8.ofNat (48 + d)]⟩ := ⟨_, rfl⟩
      rw [← hX] at hx
      have HX := Lib.hid hX
      have hXs : X.size = 1 := by rw [hX]; rfl
      have e1 : (m : Int) % 10 = (d : Int) := by omega
      have e2 : (m : Int) / 10 = ((m / 10 : Nat) : Int) := by omega
      have e3 : IntKind.i64.wrap ((m : Int).tdiv 10) = ((m / 10 : Nat) : Int) := by
        rw [Int.tdiv_eq_ediv_of_nonneg (by omega), IntWalk.i64_in _ (by omega), e2]
      have HDE := Lib.hid hde
      have HMM : Hid (m ≤ 9000000000000000000) := Lib.hid hm
      have hmI : (m : Int) ≤ 9000000000000000000 := by omega
      have d1 : (d : Int) ≤ 9 := by omega
      have hb2 : (9 : Int) < m := by omega
      clear hX hde hm e2
      go_wp2
      go_round
      case rel =>
        refine ⟨m / 10, UInt8.ofNat (48 + d) :: acc, rfl, ?_, by have := HMM.out; omega, ?_⟩
        · rw [HX.out, HO.out, cons_mk]
        · rw [HD.out, HDE.out]
          exact dec_step (by omega) acc
      case measure => simp [intOf]; omega
    · have hx := ten_cut m (by omega)
      obtain ⟨X, hX⟩ : ∃ X : ByteArray, X = ⟨#[UInt8.ofNat (48 + m)]⟩ := ⟨_, rfl⟩
      rw [← hX] at hx
      have HX := Lib.hid hX
      have hXs : X.size = 1 := by rw [hX]; rfl
      have d1 : (m : Int) ≤ 9 := by omega
      have hb2 : ¬ (9 : Int) < m := by omega
      have HM : Hid (m < 10) := Lib.hid (by omega)
      clear hX hde hb
      go_wp2
      go_ret
      refine ⟨ret_str ?_, rfl⟩
      rw [HX.out, HO.out, cons_mk, HD.out, Lib.decDigits_one HM.out]
      rfl
end Go.Proofs.YtoeddhkbifeamaaDoor
