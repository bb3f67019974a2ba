/- hash's spread, gathered, mixed; the document's mix: the walks. -/
import Derived.Test.YtihigingddaopaaDoorHPlain
import Derived.Test.YtihigingddaopaaDoorGMay
import Derived.Lib.LaidTab
import Derived.Lib.AppendIntMem
import Derived.Laws.BitsAllLaws
import Derived.RegionTactic
import Derived.BigRegion
namespace Go.Proofs.YtihigingddaopaaDoor
open Go.RowKit
set_option linter.unusedVariables false

def masksL : List Int := [6148914691236517205, 3689348814741910323, 1085102592571150095, 71777214294589695, 281470681808895, 4294967295]
/-- The masks lie there. -/
def MaskT (w : World) : Prop := Lib.TabIs Tryd.prog w "waywiser/hash.masks" .u64 masksL
theorem MaskT.below {w w1 : World} (h : MaskT w) (hb : Below w.heap.size w w1) : MaskT w1 := Lib.tabBelow_of_tabIs h w1 hb
theorem masks_g : Tryd.prog.globalNamed "waywiser/hash.masks" = some 0 := by kernel_rfl
theorem mask_cell {w : World} (h : MaskT w) (i : Nat) (hi : i < 6) : w.cell? ⟨0, i, none⟩ = some (.int .u64 (mk i)) := by
  unfold MaskT Lib.TabIs World.var? at h
  rw [masks_g] at h
  simp only [Option.bind_some] at h
  split at h
  · rename_i cs t fr hg
    injection h with h
    rw [cell_of_row w _ i cs t fr hg, h]
    rcases i with _ | _ | _ | _ | _ | _ | i
    all_goals first | rfl | omega
  · cases h
theorem mask_n (w : World) (h : MaskT w) (n : Nat) : MaskT (w.drewN n) := h

theorem step_model (i n : Nat) (hn : n < 18446744073709551616) (c : Int) (hc : c = 2 ^ 2 ^ i) : bits .and .u64 (bits .or .u64 (n : Int) (IntKind.u64.wrap ((n : Int) * c))) ((mk i : Nat) : Int) = ((stepS i n : Nat) : Int) := by
  have e : IntKind.u64.wrap ((n : Int) * c) = ((n * 2 ^ 2 ^ i % 18446744073709551616 : Nat) : Int) := by
    rw [IntKind.wrap_u64, hc]
    rw [Int.natCast_emod, Int.natCast_mul, Int.natCast_pow]
    rfl
  have h1 : n * 2 ^ 2 ^ i % 18446744073709551616 < 18446744073709551616 := Nat.mod_lt _ (by omega)
  rw [e, u64_or_nat _ _ hn h1, u64_and_nat _ _ (Nat.or_lt_two_pow (n := 64) hn h1) (mk_lt i)]
  rfl
theorem gstep_model (i n : Nat) (hn : n < 18446744073709551616) (c : Int) (hc : c = 2 ^ 2 ^ i) : bits .and .u64 (bits .or .u64 (n : Int) ((n : Int) / c)) ((mk (i + 1) : Nat) : Int) = ((stepG i n : Nat) : Int) := by
  have e : (n : Int) / c = ((n / 2 ^ 2 ^ i : Nat) : Int) := by
    rw [hc, Int.natCast_ediv, Int.natCast_pow]
    rfl
  have h1 : n / 2 ^ 2 ^ i < 18446744073709551616 := Nat.lt_of_le_of_lt (Nat.div_le_self _ _) hn
  rw [e, u64_or_nat _ _ hn h1, u64_and_nat _ _ (Nat.or_lt_two_pow (n := 64) hn h1) (mk_lt (i + 1))]
  rfl
set_option maxRecDepth 100000 in
set_option maxHeartbeats 1600000 in
theorem spread64_any (x : Nat) (hx : x < 4294967296) (w : World) (hm : MaskT w) :
    Calls Tryd.prog 41 #[.int .i64 x] w fun e w' => e = .returned (.int .u64 (Sb x 32 : Nat)) ∧ Below w.heap.size w w' := by
  have HM := Lib.hid hm
  have HE := Lib.hid (spread_eq hx)
  clear hm
  go_enter Tryd.func41, Tryd.ntmps41
  go_wp2
  go_loopw [3, 4] (fun n i wr => (∃ k : Nat, ∃ z : Int, k ≤ 5 ∧ z = 4 - k ∧ i = .int .i64 z ∧ n = .int .u64 (sprTo x k : Nat)) ∧ Below w.heap.size w wr) (fun _ i _ => (intOf i + 1).toNat)
  case atStart => exact ⟨⟨0, 4, by omega, rfl, rfl, rfl⟩, Below.refl _ _⟩
  case round =>
    obtain ⟨⟨k, z, hk, hz, rfl, rfl⟩, hl⟩ := hrel
    have hm := HM.out.below hl
    have LR := Lib.hid hl
    have m0 := mask_cell hm 0 (by omega)
    have m1 := mask_cell hm 1 (by omega)
    have m2 := mask_cell hm 2 (by omega)
    have m3 := mask_cell hm 3 (by omega)
    have m4 := mask_cell hm 4 (by omega)
    clear hm hl
    have hn := sprTo_lt (x := x) (by omega) k
    obtain ⟨n, hN⟩ : ∃ n, n = sprTo x k := ⟨_, rfl⟩
    rw [← hN] at hn ⊢
    have HN := Lib.hid hN
    clear hN
    obtain rfl | rfl | rfl | rfl | rfl | rfl : k = 0 ∨ k = 1 ∨ k = 2 ∨ k = 3 ∨ k = 4 ∨ k = 5 := by omega
    · obtain rfl : z = 4 := by omega
      clear hz hk
      go_wp2
      go_region
      have e := step_model 4 n hn 65536 (by decide)
      rw [e]
      have HZ := Lib.hid (show stepS 4 n = sprTo x 1 by rw [HN.out]; rfl)
      have L1 := Lib.hid (LR.out.trans ((Below.refl wr.heap.size wr).drew.mono LR.out.size))
      clear e
      go_wp2
      go_round
      case rel => exact ⟨⟨1, 3, by omega, by omega, by go_num, by rw [HZ.out]⟩, L1.out⟩
      case measure => simp [intOf]
    · obtain rfl : z = 3 := by omega
      clear hz hk
      go_wp2
      go_region
      have e := step_model 3 n hn 256 (by decide)
      rw [e]
      have HZ := Lib.hid (show stepS 3 n = sprTo x 2 by rw [HN.out]; rfl)
      have L1 := Lib.hid (LR.out.trans ((Below.refl wr.heap.size wr).drew.mono LR.out.size))
      clear e
      go_wp2
      go_round
      case rel => exact ⟨⟨2, 2, by omega, by omega, by go_num, by rw [HZ.out]⟩, L1.out⟩
      case measure => simp [intOf]
    · obtain rfl : z = 2 := by omega
      clear hz hk
      go_wp2
      go_region
      have e := step_model 2 n hn 16 (by decide)
      rw [e]
      have HZ := Lib.hid (show stepS 2 n = sprTo x 3 by rw [HN.out]; rfl)
      have L1 := Lib.hid (LR.out.trans ((Below.refl wr.heap.size wr).drew.mono LR.out.size))
      clear e
      go_wp2
      go_round
      case rel => exact ⟨⟨3, 1, by omega, by omega, by go_num, by rw [HZ.out]⟩, L1.out⟩
      case measure => simp [intOf]
    · obtain rfl : z = 1 := by omega
      clear hz hk
      go_wp2
      go_region
      have e := step_model 1 n hn 4 (by decide)
      rw [e]
      have HZ := Lib.hid (show stepS 1 n = sprTo x 4 by rw [HN.out]; rfl)
      have L1 := Lib.hid (LR.out.trans ((Below.refl wr.heap.size wr).drew.mono LR.out.size))
      clear e
      go_wp2
      go_round
      case rel => exact ⟨⟨4, 0, by omega, by omega, by go_num, by rw [HZ.out]⟩, L1.out⟩
      case measure => simp [intOf]
    · obtain rfl : z = 0 := by omega
      clear hz hk
      go_wp2
      go_region
      have e := step_model 0 n hn 2 (by decide)
      rw [e]
      have HZ := Lib.hid (show stepS 0 n = sprTo x 5 by rw [HN.out]; rfl)
      have L1 := Lib.hid (LR.out.trans ((Below.refl wr.heap.size wr).drew.mono LR.out.size))
      clear e
      go_wp2
      go_round
      case rel => exact ⟨⟨5, -1, by omega, by omega, by go_num, by rw [HZ.out]⟩, L1.out⟩
      case measure => simp [intOf]
    · obtain rfl : z = -1 := by omega
      clear hz hk
      go_wp2
      go_ret
      exact ⟨by rw [HN.out, ← HE.out]; rfl, LR.out⟩
set_option maxRecDepth 100000 in
set_option maxHeartbeats 1600000 in
theorem spread32_any (x : Nat) (hx : x < 4294967296) (w : World) (hm : MaskT w) :
    Calls Tryd.prog 29 #[.int .u32 x] w fun e w' => e = .returned (.int .u64 (Sb x 32 : Nat)) ∧ Below w.heap.size w w' := by
  have HM := Lib.hid hm
  have HE := Lib.hid (spread_eq hx)
  clear hm
  go_enter Tryd.func29, Tryd.ntmps29
  go_wp2
  go_loopw [3, 4] (fun n i wr => (∃ k : Nat, ∃ z : Int, k ≤ 5 ∧ z = 4 - k ∧ i = .int .i64 z ∧ n = .int .u64 (sprTo x k : Nat)) ∧ Below w.heap.size w wr) (fun _ i _ => (intOf i + 1).toNat)
  case atStart => exact ⟨⟨0, 4, by omega, rfl, rfl, rfl⟩, Below.refl _ _⟩
  case round =>
    obtain ⟨⟨k, z, hk, hz, rfl, rfl⟩, hl⟩ := hrel
    have hm := HM.out.below hl
    have LR := Lib.hid hl
    have m0 := mask_cell hm 0 (by omega)
    have m1 := mask_cell hm 1 (by omega)
    have m2 := mask_cell hm 2 (by omega)
    have m3 := mask_cell hm 3 (by omega)
    have m4 := mask_cell hm 4 (by omega)
    clear hm hl
    have hn := sprTo_lt (x := x) (by omega) k
    obtain ⟨n, hN⟩ : ∃ n, n = sprTo x k := ⟨_, rfl⟩
    rw [← hN] at hn ⊢
    have HN := Lib.hid hN
    clear hN
    obtain rfl | rfl | rfl | rfl | rfl | rfl : k = 0 ∨ k = 1 ∨ k = 2 ∨ k = 3 ∨ k = 4 ∨ k = 5 := by omega
    · obtain rfl : z = 4 := by omega
      clear hz hk
      go_wp2
      go_region
      have e := step_model 4 n hn 65536 (by decide)
      rw [e]
      have HZ := Lib.hid (show stepS 4 n = sprTo x 1 by rw [HN.out]; rfl)
      have L1 := Lib.hid (LR.out.trans ((Below.refl wr.heap.size wr).drew.mono LR.out.size))
      clear e
      go_wp2
      go_round
      case rel => exact ⟨⟨1, 3, by omega, by omega, by go_num, by rw [HZ.out]⟩, L1.out⟩
      case measure => simp [intOf]
    · obtain rfl : z = 3 := by omega
      clear hz hk
      go_wp2
      go_region
      have e := step_model 3 n hn 256 (by decide)
      rw [e]
      have HZ := Lib.hid (show stepS 3 n = sprTo x 2 by rw [HN.out]; rfl)
      have L1 := Lib.hid (LR.out.trans ((Below.refl wr.heap.size wr).drew.mono LR.out.size))
      clear e
      go_wp2
      go_round
      case rel => exact ⟨⟨2, 2, by omega, by omega, by go_num, by rw [HZ.out]⟩, L1.out⟩
      case measure => simp [intOf]
    · obtain rfl : z = 2 := by omega
      clear hz hk
      go_wp2
      go_region
      have e := step_model 2 n hn 16 (by decide)
      rw [e]
      have HZ := Lib.hid (show stepS 2 n = sprTo x 3 by rw [HN.out]; rfl)
      have L1 := Lib.hid (LR.out.trans ((Below.refl wr.heap.size wr).drew.mono LR.out.size))
      clear e
      go_wp2
      go_round
      case rel => exact ⟨⟨3, 1, by omega, by omega, by go_num, by rw [HZ.out]⟩, L1.out⟩
      case measure => simp [intOf]
    · obtain rfl : z = 1 := by omega
      clear hz hk
      go_wp2
      go_region
      have e := step_model 1 n hn 4 (by decide)
      rw [e]
      have HZ := Lib.hid (show stepS 1 n = sprTo x 4 by rw [HN.out]; rfl)
      have L1 := Lib.hid (LR.out.trans ((Below.refl wr.heap.size wr).drew.mono LR.out.size))
      clear e
      go_wp2
      go_round
      case rel => exact ⟨⟨4, 0, by omega, by omega, by go_num, by rw [HZ.out]⟩, L1.out⟩
      case measure => simp [intOf]
    · obtain rfl : z = 0 := by omega
      clear hz hk
      go_wp2
      go_region
      have e := step_model 0 n hn 2 (by decide)
      rw [e]
      have HZ := Lib.hid (show stepS 0 n = sprTo x 5 by rw [HN.out]; rfl)
      have L1 := Lib.hid (LR.out.trans ((Below.refl wr.heap.size wr).drew.mono LR.out.size))
      clear e
      go_wp2
      go_round
      case rel => exact ⟨⟨5, -1, by omega, by omega, by go_num, by rw [HZ.out]⟩, L1.out⟩
      case measure => simp [intOf]
    · obtain rfl : z = -1 := by omega
      clear hz hk
      go_wp2
      go_ret
      exact ⟨by rw [HN.out, ← HE.out]; rfl, LR.out⟩
end Go.Proofs.YtihigingddaopaaDoor
