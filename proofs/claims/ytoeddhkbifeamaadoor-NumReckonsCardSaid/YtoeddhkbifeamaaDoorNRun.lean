/- num.run, and the two closures of num.cut. -/
import Derived.Test.YtoeddhkbifeamaaDoorNArith
import Derived.Test.YtoeddhkbifeamaaDoorNText
import Derived.LoopTactic
import Derived.Laws.RangeAny
import Derived.Deep.RegionHeld3
import Derived.Deep.RegionWith
import Derived.Deep.OwnRows
import Derived.Deep.Draws
import Derived.OwnWalk
import Derived.OneCell
namespace Go.Proofs.YtoeddhkbifeamaaDoor
open Go.RowKit
set_option linter.unusedVariables false

theorem ret_i64 {a b : Int} (h : a = b) : Ending.returned (.int .i64 a) = .returned (.int .i64 b) := by rw [h]
/-- What is not a figure is none as a rune. -/
theorem rune_no (s : ByteArray) (k : Nat) (h : k < s.size) (hf : fig s[k] = false) : (Utf8.decode s k).1 < 48 ∨ 57 < (Utf8.decode s k).1 := by
  by_cases ha : (s[k]'h).toNat < 128
  · rw [decode_ascii s k h ha]
    exact fig_no hf
  · have := (decode_high s k h (by omega)).1
    omega
set_option maxRecDepth 100000 in
theorem run_any (s : ByteArray) (w : World) (hs : s.size ≤ 9223372036854775807) :
    Calls Tryd.prog 38 #[.string s] w fun e w' => e = .returned (.int .i64 (runAt s 0)) ∧ Below w.heap.size w w' := by
  go_enter Tryd.func38, Tryd.ntmps38
  go_wp2
  go_loopw [2] (fun n w' => ∃ k : Nat, w' = w.iter s k ∧ n = .int .i64 0 ∧ k ≤ s.size ∧ ∀ j (h : j < k) (h2 : j < s.size), fig s[j] = true) (fun _ w' => s.size - w'.iterPos w.heap.size)
  case atStart => exact ⟨0, rfl, rfl, by omega, fun j h => absurd h (by omega)⟩
  case round =>
    obtain ⟨k, rfl, rfl, hk, hF⟩ := hrel
    have HF := Lib.hid hF
    clear hF
    by_cases hp : k < s.size
    · cases hf : fig s[k]
      · have hr := rune_no s k hp hf
        have hz : runAt s 0 = k := runAt_zero s k hk (fun j h => HF.out j h (by omega)) (fun _ => hf)
        have HZ := Lib.hid hz
        have hnx := fun ty => run_next_any (P := Tryd.prog) w s k ty hp
        obtain ⟨r, hre⟩ : ∃ r, r = (Utf8.decode s k).1 := ⟨_, rfl⟩
        obtain ⟨d, hde⟩ : ∃ d, d = (Utf8.decode s k).2 := ⟨_, rfl⟩
        rw [← hre, ← hde] at hnx
        rw [← hre] at hr
        clear hre hde hz hf
        rcases hr with hr | hr
        · have hr2 : (r : Int) < 48 := by omega
          clear hr
          go_wp2
          go_ret
          exact ⟨ret_i64 (by rw [HZ.out]), (Below.refl _ _).alloc (Nat.le_refl _) _⟩
        · have hr2 : 57 < (r : Int) := by omega
          clear hr
          go_wp2
          go_ret
          exact ⟨ret_i64 (by rw [HZ.out]), (Below.refl _ _).alloc (Nat.le_refl _) _⟩
      · have hff := fig_yes hf
        have hnx := fun ty => run_next_ascii (P := Tryd.prog) w s k ty hp (by omega)
        have HN : Hid (∀ j (h : j < k + 1) (h2 : j < s.size), fig s[j] = true) := Lib.hid fun j h h2 => by
          rcases Nat.lt_or_ge j k with hj | hj
          · exact HF.out j hj h2
          · obtain rfl : j = k := by omega
            exact hf
        obtain ⟨r, hre⟩ : ∃ r, r = (s[k]'hp).toNat := ⟨_, rfl⟩
        rw [← hre] at hnx
        rw [← hre] at hff
        have hr1 : ¬ (r : Int) < 48 := by omega
        have hr2 : ¬ 57 < (r : Int) := by omega
        clear hre hf hff
        go_wp2
        go_roundw
        case rel => exact ⟨k + 1, rfl, rfl, by omega, HN.out⟩
        case measure => simp; omega
    · have hz : runAt s 0 = k := runAt_zero s k hk (fun j h => HF.out j h (by omega)) (fun h => absurd h hp)
      obtain rfl : k = s.size := by omega
      have HZ := Lib.hid hz
      have hnx := fun ty => run_next_end (P := Tryd.prog) w s s.size ty hp
      clear hz
      go_wp2
      go_ret
      exact ⟨ret_i64 (by rw [HZ.out]), (Below.refl _ _).alloc (Nat.le_refl _) _⟩

theorem grown_store (w : World) (p : Addr) (u : Value) : w.grownBy (w.setCell p u) (some p.block) where
  os := rfl
  tape := rfl
  output := rfl
  size := by simp [World.setCell]
  block k _ hk := Below.heap_setCell w p u k fun e => hk (e ▸ rfl)
theorem grown_below {w w' : World} {r : Option Nat} (h : Below w.heap.size w w') : w.grownBy w' r where
  os := h.os
  tape := h.tape
  output := h.output
  size := h.size
  block k hk _ := h.block k hk
theorem grown_trans {a b c : World} {r : Option Nat} (h : a.grownBy b r) (k : b.grownBy c r) : a.grownBy c r where
  os := k.os.trans h.os
  tape := k.tape.trans h.tape
  output := k.output.trans h.output
  size := Nat.le_trans h.size k.size
  block i hi hr := (k.block i (Nat.lt_of_lt_of_le hi h.size) hr).trans (h.block i hi hr)

/-- The two variables that the closures of cut hold. -/
def At (w : World) (ba bs : Nat) (i : Nat) (s : ByteArray) : Prop :=
  w.heap[ba]? = some (.cells #[.int .i64 i] 3 (0, 0)) ∧ w.heap[bs]? = some (.cells #[.string s] 9 (0, 0))
theorem At.ne {w : World} {ba bs i : Nat} {s : ByteArray} (h : At w ba bs i s) : ba ≠ bs := by
  rintro rfl
  have := h.1.symm.trans h.2
  injection this with this
  injection this with h1 h2 h3
  cases h2
theorem At.next {w w' : World} {ba bs i j : Nat} {s : ByteArray} (h : At w ba bs i s) (hg : w.grownBy w' (some ba)) (hc : w'.heap[ba]? = some (.cells #[.int .i64 j] 3 (0, 0))) : At w' ba bs j s :=
  ⟨hc, (hg.block bs (lt_of_block h.2) (by simp; exact fun e => h.ne e.symm)).trans h.2⟩

set_option maxHeartbeats 1000000 in
set_option maxRecDepth 100000 in
/-- Takes all figures that come. -/
theorem figures_any (ba bs i : Nat) (s : ByteArray) (w : World) (h : At w ba bs i s) (hi : i ≤ s.size) (hs : s.size ≤ 9223372036854775807) :
    Calls Tryd.prog 37 #[.pointer (some ⟨ba, 0, none⟩), .pointer (some ⟨bs, 0, none⟩)] w fun e w' =>
      e = .returned (.string (s.extract i (i + runAt s i))) ∧ At w' ba bs (i + runAt s i) s ∧ w.grownBy w' (some ba) := by
  have hle := runAt_le s i hi
  obtain ⟨r, hr⟩ : ∃ r, r = runAt s i := ⟨_, rfl⟩
  rw [← hr] at hle ⊢
  have ca := cell_of_one h.1
  have cs := cell_of_one h.2
  have fa := free_of_one h.1
  have H := Lib.hid h
  have hne := H.out.ne
  have hxs : (s.extract i s.size).size ≤ 9223372036854775807 := by rw [ByteArray.size_extract]; omega
  have CR := Lib.hid fun W => run_any (s.extract i s.size) W hxs
  have HR := Lib.hid ((runAt_tail s i).trans hr.symm)
  have hlb := lt_of_block h.1
  have hls := lt_of_block h.2
  have KS := Lib.hid (show ∀ W, Below w.heap.size w W → W.cell? ⟨ba, 0, none⟩ = some (.int .i64 i) ∧ W.cell? ⟨bs, 0, none⟩ = some (.string s) from fun W hb =>
    ⟨(hb.cell (p := ⟨ba, 0, none⟩) hlb).trans ca, (hb.cell (p := ⟨bs, 0, none⟩) hls).trans cs⟩)
  have KF := Lib.hid (show ∀ W, Below w.heap.size w W → W.cell? ⟨ba, 0, none⟩ = some (.int .i64 i) ∧ W.frozen? ⟨ba, 0, none⟩ = false from fun W hb =>
    ⟨(hb.cell (p := ⟨ba, 0, none⟩) hlb).trans ca, (hb.frozen (p := ⟨ba, 0, none⟩) hlb).trans fa⟩)
  have hw1 : IntKind.i64.wrap ((i : Int) + (r : Int)) = (i : Int) + (r : Int) := IntWalk.i64_in _ (by omega)
  clear h hr hxs
  go_enter Tryd.func37, Tryd.ntmps37
  go_wp2
  go_region_with (go_at_call 38; refine (CR.out _).mono ?_; rintro e w1 ⟨rfl, l1⟩; rw [HR.out]; have L1 : Below w.heap.size w w1 := ((Below.refl _ _).drew).trans l1; have fz := (KF.out _ L1).2; have cz := (KF.out _ L1).1; have cy := (KS.out _ L1).2)
  all_goals
    have o1 : w1.heap[ba]? = some (.cells #[.int .i64 i] 3 (0, 0)) := (L1.block ba hlb).trans H.out.1
    have HT := Lib.hid (At.next (j := i + r) H.out (grown_trans (grown_below L1) (grown_store w1 ⟨ba, 0, none⟩ (.int .i64 ((i : Int) + (r : Int))))) (by rw [one_setCell o1, Int.natCast_add]))
    have HG := Lib.hid (grown_trans (grown_below (r := some ba) L1) (grown_store w1 ⟨ba, 0, none⟩ (.int .i64 ((i : Int) + (r : Int)))))
    have k1 := cell_of_one HT.out.1
    have k2 := cell_of_one HT.out.2
    have g1 : (i : Int) ≤ ((i + r : Nat) : Int) := by omega
    have g2 : ((i + r : Nat) : Int) ≤ (s.size : Int) := by omega
    clear o1 l1 L1 fz cz cy
    go_wp2
    go_ret
    exact ⟨rfl, HT.out, HG.out⟩
end Go.Proofs.YtoeddhkbifeamaaDoor
