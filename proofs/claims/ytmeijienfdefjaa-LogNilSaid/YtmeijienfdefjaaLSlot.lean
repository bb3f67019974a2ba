/- log.slot.read: the epoch in which a slot was written, and its load. -/
import Derived.Test.YtmeijienfdefjaaLLittle
import Derived.Deep.DeepCutAuto
import Derived.Deep.CutRange
namespace Go.Proofs.Ytmeijienfdefjaa
open Go.RowKit
set_option linter.unusedVariables false

theorem epoch_bad {F : Nat → Nat} {m i : Nat} (h : ¬ okP F m) : epochN F m i = 0 := if_neg h
theorem epoch_out {F : Nat → Nat} {m i : Nat} (h : ¬ (1 ≤ leTo F 8 / 2097152 ∧ leTo F 8 / 2097152 ≤ 1099511627776)) : epochN F m i = 0 := by
  unfold epochN
  split
  · rw [if_neg fun k => h ⟨k.1, k.2.1⟩]
  · rfl
theorem epoch_else {F : Nat → Nat} {m i : Nat} (h : leTo F 8 ≠ mkN (leTo F 8 / 2097152) i) : epochN F m i = 0 := by
  unfold epochN
  split
  · rw [if_neg fun k => h k.2.2]
  · rfl
theorem epoch_yes {F : Nat → Nat} {m i : Nat} (h : okP F m) (h1 : 1 ≤ leTo F 8 / 2097152 ∧ leTo F 8 / 2097152 ≤ 1099511627776) (h2 : leTo F 8 = mkN (leTo F 8 / 2097152) i) : epochN F m i = leTo F 8 / 2097152 := by
  unfold epochN
  rw [if_pos h, if_pos ⟨h1.1, h1.2, h2⟩]
set_option maxHeartbeats 4000000 in
set_option maxRecDepth 100000 in
theorem slotRead_any (i b o n m c : Nat) (F : Nat → Nat) (w : World) (hi : i ≤ 1048576) (h1 : m + 20 ≤ n) (h2 : n ≤ m + 20) (h44 : 44 ≤ m) (hm : m ≤ 4076) (hc : n ≤ c) (hc2 : c ≤ 9223372036854775807) (hb : Bytes w (some ⟨b, o, none⟩) n F) :
    Calls Try.prog 45 #[.agg #[.int .i64 i, .slice (some ⟨b, o, none⟩) n c]] w fun e w' =>
      (epochN F m i = 0 ∧ e = .returned (.tuple #[.int .i64 0, .slice none 0 0]) ∨ epochN F m i ≠ 0 ∧ ∃ B d, e = .returned (.tuple #[.int .i64 (epochN F m i), .slice B (m - 16) d]) ∧ Bytes w' B (m - 16) (fun j => F (16 + j)) ∧ m - 16 ≤ d ∧ d ≤ 9223372036854775807 ∧ (B = none → d = 0) ∧ (∀ b' o', B = some ⟨b', o', none⟩ → w.heap.size ≤ b')) ∧ Below w.heap.size w w' := by
  obtain ⟨W1, hW1⟩ : ∃ W1, W1 = w.alloc (.cells #[.int .i64 i, .slice (some ⟨b, o, none⟩) n c] 90) := ⟨_, rfl⟩
  have hz1 : W1.heap.size = w.heap.size + 1 := by rw [hW1]; simp
  have L1 := Lib.hid (show Below w.heap.size w W1 by rw [hW1]; exact (Below.refl _ _).alloc (Nat.le_refl _) _)
  have C1 := Lib.hid (show ∀ W : World, Below W1.heap.size W1 W → W.cell? ⟨w.heap.size, 0, none⟩ = some (.int .i64 i) ∧ W.cell? ⟨w.heap.size, 1, none⟩ = some (.slice (some ⟨b, o, none⟩) n c) ∧ Below w.heap.size w W from fun W l => by
    refine ⟨(l.cell (p := ⟨w.heap.size, 0, none⟩) (by rw [hz1]; exact Nat.lt_succ_self _)).trans ?_, (l.cell (p := ⟨w.heap.size, 1, none⟩) (by rw [hz1]; exact Nat.lt_succ_self _)).trans ?_, L1.out.trans (l.mono L1.out.size)⟩ <;> rw [hW1] <;> simp)
  have hb1 := hb.below L1.out (Nat.le_refl _)
  have HW1 := Lib.hid hW1
  clear hW1 hz1 hb
  by_cases hok : okP F m
  case neg =>
    have K := Lib.hid (read_no b o n m c F W1 h1 h2 h44 hm hc hc2 hb1 hok)
    have HE := Lib.hid (epoch_bad (i := i) hok)
    clear hb1 hok
    go_enter Try.func45, Try.ntmps45
    go_upto_region 1 with (fail)
    rw [← HW1.out]
    obtain ⟨c0, c1, _⟩ := C1.out W1 (Below.refl _ _)
    go_wp2_with fail
    refine K.out.mono ?_
    rintro e W2 ⟨rfl, l2⟩
    have L2 := Lib.hid l2
    clear l2 c0 c1
    go_wp2_with fail
    go_ret2
    exact ⟨.inl ⟨HE.out, rfl⟩, (C1.out _ L2.out).2.2⟩
  have K := Lib.hid (read_yes2 b o n m c F W1 h1 h2 h44 hm hc hc2 hb1 hok)
  obtain ⟨v, hv⟩ : ∃ v, v = leTo F 8 := ⟨_, rfl⟩
  have hvb : 1 ≤ v ∧ v ≤ 4611686018427387904 := by rw [hv]; exact hok.1
  obtain ⟨hv0, hv1⟩ := hvb
  obtain ⟨Q, hQ⟩ : ∃ Q, Q = v / 2097152 := ⟨_, rfl⟩
  have hq : (v : Int) / 2097152 = (Q : Int) := by rw [hQ]; simp
  have hQb : Q ≤ 2199023255552 := by omega
  by_cases he : 1 ≤ Q ∧ Q ≤ 1099511627776
  case neg =>
    have EE := Lib.hid (show isEpochB (Q : Int) = false from decide_eq_false (by omega))
    have HE := Lib.hid (epoch_out (F := F) (m := m) (i := i) (by rw [← hv, ← hQ]; exact he))
    rw [← hv] at K
    clear hb1 hok hv hQ he
    go_enter Try.func45, Try.ntmps45
    go_upto_region 1 with (fail)
    rw [← HW1.out]
    obtain ⟨c0, c1, _⟩ := C1.out W1 (Below.refl _ _)
    go_wp2_with fail
    refine K.out.mono ?_
    rintro e W2 ⟨B, d, rfl, _, _, _, l2, _⟩
    have L2 := Lib.hid l2
    clear l2 c0 c1
    obtain ⟨c0, c1, _⟩ := C1.out _ L2.out
    go_wp2_with fail
    refine (isEpoch_any _ _).mono ?_
    rintro e w' ⟨rfl, rfl⟩
    rw [EE.out]
    go_wp2_with fail
    go_ret2
    exact ⟨.inl ⟨HE.out, rfl⟩, (C1.out _ L2.out).2.2⟩
  have EE := Lib.hid (show isEpochB (Q : Int) = true from decide_eq_true (by omega))
  have MM := Lib.hid (fun W => markOf_any Q i W he.2 hi)
  by_cases hk : v = mkN Q i
  case neg =>
    have HE := Lib.hid (epoch_else (F := F) (m := m) (i := i) (by rw [← hv, ← hQ]; exact hk))
    have e1 : ((v : Int) != ((mkN Q i : Nat) : Int)) = true := by simp; omega
    rw [← hv] at K
    clear hb1 hok hv hQ he hk
    go_enter Try.func45, Try.ntmps45
    go_upto_region 1 with (fail)
    rw [← HW1.out]
    obtain ⟨c0, c1, _⟩ := C1.out W1 (Below.refl _ _)
    go_wp2_with fail
    refine K.out.mono ?_
    rintro e W2 ⟨B, d, rfl, _, _, _, l2, _⟩
    have L2 := Lib.hid l2
    clear l2 c0 c1
    obtain ⟨c0, c1, _⟩ := C1.out _ L2.out
    go_wp2_with fail
    refine (isEpoch_any _ _).mono ?_
    rintro e w' ⟨rfl, rfl⟩
    rw [EE.out]
    go_wp2_with fail
    refine (MM.out _).mono ?_
    rintro e w' ⟨rfl, rfl⟩
    go_wp2_with fail
    go_ret2
    exact ⟨.inl ⟨HE.out, rfl⟩, (C1.out _ L2.out).2.2⟩
  have HE := Lib.hid ((epoch_yes (F := F) (m := m) (i := i) hok (by rw [← hv, ← hQ]; exact he) (by rw [← hv, ← hQ]; exact hk)).trans (by rw [← hv, ← hQ]))
  have HQ0 := Lib.hid (show Q ≠ 0 by omega)
  have e1 : ((v : Int) != ((mkN Q i : Nat) : Int)) = false := by rw [← hk]; simp
  rw [← hv] at K
  clear hb1 hok hv hQ he hk
  go_enter Try.func45, Try.ntmps45
  go_upto_region 1 with (fail)
  rw [← HW1.out]
  obtain ⟨c0, c1, _⟩ := C1.out W1 (Below.refl _ _)
  go_wp2_with fail
  refine K.out.mono ?_
  rintro e W2 ⟨B, d, rfl, b2, d2, d3, l2, d4, d5⟩
  have L2 := Lib.hid l2
  have R2 := Lib.hid (And.intro b2 (And.intro d2 (And.intro d4 (And.intro d3 (show ∀ b' o', B = some ⟨b', o', none⟩ → w.heap.size ≤ b' from fun b' o' e => Nat.le_trans L1.out.size (d5 b' o' e))))))
  clear l2 c0 c1 b2 d2 d3 d4 d5
  obtain ⟨c0, c1, _⟩ := C1.out _ L2.out
  go_wp2_with fail
  refine (isEpoch_any _ _).mono ?_
  rintro e w' ⟨rfl, rfl⟩
  rw [EE.out]
  go_wp2_with fail
  refine (MM.out _).mono ?_
  rintro e w' ⟨rfl, rfl⟩
  go_wp2_with fail
  go_ret2
  rw [HE.out]
  exact ⟨.inr ⟨HQ0.out, B, d, rfl, R2.out⟩, (C1.out _ L2.out).2.2⟩
end Go.Proofs.Ytmeijienfdefjaa
