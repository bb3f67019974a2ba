/- OrderPrefix: the walk. -/
import Derived.Test.YthcnkdlphbkbaaaDoorOPrefLaw
import Derived.Deep.RegionHeldLaw
namespace Go.Proofs.YthcnkdlphbkbaaaDoor
open Go.RowKit
set_option linter.unusedVariables false

theorem str_len (l : List UInt8) : (⟨l.toArray⟩ : ByteArray).size = l.length := by simp [ByteArray.size]
set_option maxHeartbeats 4000000 in
set_option maxRecDepth 100000 in
/-- Nothing is above all: all bytes are 255. -/
theorem pref_none (A B C : Option Addr) (cA cB cC : Nat) (l m o : List UInt8) (w : World) (hA : Bytes w A l.length (lF l)) (hl : l.length ≤ 300) (hm : m.length ≤ 300) (ho : o.length ≤ 300) (hc : l.length ≤ cA ∧ cA ≤ 9223372036854775807) (hT : TabU w) (h0 : stripN l l.length = 0) :
    Calls Tryd.prog 9 #[.slice A l.length cA, .slice B m.length cB, .slice C o.length cC] w fun e w' => e = .returned (.bool true) ∧ Below w.heap.size w w' := by
  have HP := Lib.hid (Prefix_any A cA l w hA (by omega) hc)
  have HE := Lib.hid (show prefixL l = [] from by unfold prefixL; rw [if_pos h0])
  have HTL := Lib.hid (fun j (hj : j < l.length) => strip_tail l l.length j (by omega) hj)
  have HA := Lib.hid hA
  have HT := Lib.hid hT
  obtain ⟨n, hn⟩ : ∃ n, n = l.length := ⟨_, rfl⟩
  obtain ⟨nm, hnm⟩ : ∃ n, n = m.length := ⟨_, rfl⟩
  obtain ⟨no, hno⟩ : ∃ n, n = o.length := ⟨_, rfl⟩
  rw [← hn] at HP HTL HA hl hc ⊢
  rw [← hnm] at hm ⊢
  rw [← hno] at ho ⊢
  clear hA hT h0 hn hnm hno
  go_enter Tryd.func9, Tryd.ntmps9
  go_wp2_with fail
  refine HP.out.mono ?_
  rintro e w1 ⟨v1, rfl, o1, l1⟩
  rw [HE.out] at o1
  have q1 := conv_own o1
  rw [show (([] : List UInt8).toArray) = #[] from rfl] at q1
  have L1 := Lib.hid l1
  have HA1 := Lib.hid (HA.out.below l1 (Nat.le_refl _))
  clear o1 l1
  go_wp2_with fail
  clear q1
  go_loopw [8] (fun i wr => wr = w1 ∧ ∃ k : Nat, k ≤ n ∧ i = .int .i64 k) (fun i _ => n - (intOf i).toNat)
  case atStart => exact ⟨rfl, 0, by omega, rfl⟩
  case round =>
    obtain ⟨rfl, k, hk, rfl⟩ := hrel
    by_cases hlt : k < n
    · obtain ⟨b, off, rfl, hc1⟩ := HA1.out.2.2 (by omega)
      have c1 := hc1 k hlt
      rw [HTL.out k hlt] at c1
      have HC1 := Lib.hid hc1
      clear hc1
      go_wp2_with fail
      go_roundw
      case rel => exact ⟨trivial, k + 1, by omega, by go_num⟩
      case measure => simp [intOf]; omega
    · obtain rfl : k = n := by omega
      go_wp2_with fail
      refine (awake_any _ (HT.out.below L1.out)).mono ?_
      rintro e w2 ⟨rfl, l2⟩
      have L2 := Lib.hid (L1.out.trans (l2.mono L1.out.size))
      clear l2
      go_wp2_with fail
      go_ret
      exact ⟨rfl, L2.out⟩
theorem begB_len {l o : List UInt8} (h : o.length < l.length) : begB l o = false := by
  unfold begB
  apply decide_eq_false
  intro e
  have := e.length_le
  omega
theorem begB_take (l o : List UInt8) : begB l o = decide (o.take l.length = l) := by
  unfold begB
  congr 1
  apply propext
  exact ⟨fun e => (List.prefix_iff_eq_take.1 e).symm, fun e => List.prefix_iff_eq_take.2 e.symm⟩
theorem extract_list (o : List UInt8) (n : Nat) : (⟨o.toArray⟩ : ByteArray).extract 0 n = ⟨(o.take n).toArray⟩ := by
  have h := Lib.extract_data (⟨o.toArray⟩ : ByteArray) 0 n
  generalize (⟨o.toArray⟩ : ByteArray).extract 0 n = x at h ⊢
  obtain ⟨⟨x⟩⟩ := x
  simp at h
  rw [h]
end Go.Proofs.YthcnkdlphbkbaaaDoor
