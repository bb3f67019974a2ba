/- The document's figure, run, Scan. -/
import Derived.Test.YtoeddhkbifeamaaDoorNShape
import Derived.Test.YtoeddhkbifeamaaDoorNAwake
import Derived.LoopTactic
namespace Go.Proofs.YtoeddhkbifeamaaDoor
open Go.RowKit
set_option linter.unusedVariables false

theorem figure_any (c : UInt8) (w : World) : Calls Tryd.prog 22 #[.int .u8 (c.toNat : Int)] w fun e w' => e = .returned (.bool (fig c)) ∧ w = w' := by
  obtain ⟨n, hn⟩ : ∃ n, n = c.toNat := ⟨_, rfl⟩
  have hf : fig c = decide (48 ≤ n ∧ n ≤ 57) := by rw [hn]; rfl
  have hn2 : n < 256 := hn ▸ c.toNat_lt
  rw [hf, ← hn]
  clear hf hn
  by_cases h1 : 48 ≤ n
  · by_cases h2 : n ≤ 57
    · rw [decide_eq_true (⟨h1, h2⟩ : 48 ≤ n ∧ n ≤ 57)]
      have i1 : (48 : Int) ≤ n := by omega
      have i2 : (n : Int) ≤ 57 := by omega
      clear h1 h2
      go_enter Tryd.func22, Tryd.ntmps22
      go_wp2
      go_ret
      exact ⟨rfl, rfl⟩
    · rw [decide_eq_false (by omega : ¬ (48 ≤ n ∧ n ≤ 57))]
      have i1 : (48 : Int) ≤ n := by omega
      have i2 : ¬ (n : Int) ≤ 57 := by omega
      clear h1 h2
      go_enter Tryd.func22, Tryd.ntmps22
      go_wp2
      go_ret
      exact ⟨rfl, rfl⟩
  · rw [decide_eq_false (by omega : ¬ (48 ≤ n ∧ n ≤ 57))]
    have i1 : ¬ (48 : Int) ≤ n := by omega
    clear h1
    go_enter Tryd.func22, Tryd.ntmps22
    go_wp2
    go_ret
    exact ⟨rfl, rfl⟩
theorem figure_at (c : UInt8) (b : Bool) (h : fig c = b) (w : World) : Calls Tryd.prog 22 #[.int .u8 (c.toNat : Int)] w fun e w' => e = .returned (.bool b) ∧ w = w' := by
  subst h
  exact figure_any c w
theorem runAt_eq (s : ByteArray) (i k : Nat) (hk : i + k ≤ s.size) (h1 : ∀ j (h : j < k), fig (s[i + j]'(by omega)) = true) (h2 : ∀ h : i + k < s.size, fig s[i + k] = false) : runAt s i = k := by
  have hl : (s.data.toList.drop i).length = s.size - i := by rw [List.length_drop]; simp
  have at' : ∀ j (h : i + j < s.size), (s.data.toList.drop i)[j]'(by rw [hl]; omega) = s[i + j] := fun j h => by
    rw [List.getElem_drop, byteOf s (i + j) h]
  unfold runAt
  refine runL_eq _ k (by rw [hl]; omega) (fun j h => ?_) (fun h => ?_)
  · rw [at' j (by omega)]
    exact h1 j h
  · rw [at' k (by rw [hl] at h; omega)]
    exact h2 _
theorem runAt_over (s : ByteArray) (i : Nat) (h : s.size ≤ i) : runAt s i = 0 := by
  unfold runAt
  rw [List.drop_of_length_le (by simpa using h)]
  rfl
set_option maxHeartbeats 1000000 in
set_option maxRecDepth 100000 in
theorem refRun_any (s : ByteArray) (i : Nat) (w : World) (hs : s.size ≤ 1000000) (hi : i ≤ s.size + 2) :
    Calls Tryd.prog 24 #[.string s, .int .i64 i] w fun e w' => e = .returned (.int .i64 (runAt s i)) ∧ w = w' := by
  have hsI : (s.size : Int) ≤ 1000000 := by omega
  have hiI : (i : Int) ≤ 1000002 := by omega
  rcases Nat.lt_or_ge s.size i with hov | hov
  · have hz := Lib.hid (runAt_over s i (by omega))
    have t1 : ¬ (i : Int) < s.size := by omega
    go_enter Tryd.func24, Tryd.ntmps24
    go_wp2
    refine wp_loop_rounds 1 ?_
    rw [rounds_succ]
    go_wp2
    go_ret
    exact ⟨ret_i64 (by rw [hz.out]; rfl), rfl⟩
  · go_enter Tryd.func24, Tryd.ntmps24
    go_wp2
    go_loop [5] (fun n => ∃ k : Nat, n = .int .i64 k ∧ i + k ≤ s.size ∧ ∀ j (h : j < k) (h2 : i + j < s.size), fig s[i + j] = true) (fun n => s.size - (intOf n).toNat)
    case atStart => exact ⟨0, rfl, by omega, fun j h => absurd h (by omega)⟩
    case round =>
      obtain ⟨k, rfl, hk, hF⟩ := hrel
      have HF := Lib.hid hF
      clear hF
      have ek : ((i : Int) + (k : Int)).toNat = i + k := by omega
      by_cases hp : i + k < s.size
      · have hpI : (i : Int) + k < s.size := by omega
        cases hf : fig (s[i + k]'hp)
        · have HZ := Lib.hid (runAt_eq s i k hk (fun j h => HF.out j h (by omega)) (fun _ => hf))
          have C := Lib.hid fun W => figure_at (s[i + k]'hp) false hf W
          clear hf
          go_wp2_with (go_at_call 22; refine (C.out _).mono ?_; rintro e w' ⟨rfl, rfl⟩)
          go_ret
          exact ⟨ret_i64 (by rw [HZ.out]), rfl⟩
        · have HN : Hid (∀ j (h : j < k + 1) (h2 : i + j < s.size), fig s[i + j] = true) := Lib.hid fun j h h2 => by
            by_cases e : j = k
            · subst e; exact hf
            · exact HF.out j (by omega) h2
          have C := Lib.hid fun W => figure_at (s[i + k]'hp) true hf W
          clear hf
          go_wp2_with (go_at_call 22; refine (C.out _).mono ?_; rintro e w' ⟨rfl, rfl⟩)
          go_round
          case rel => exact ⟨k + 1, by go_num, by omega, HN.out⟩
          case measure => simp [intOf]; omega
      · have hpI : ¬ (i : Int) + k < s.size := by omega
        have HZ := Lib.hid (runAt_eq s i k hk (fun j h => HF.out j h (by omega)) (fun h => absurd h hp))
        go_wp2
        go_ret
        exact ⟨ret_i64 (by rw [HZ.out]), rfl⟩
end Go.Proofs.YtoeddhkbifeamaaDoor
