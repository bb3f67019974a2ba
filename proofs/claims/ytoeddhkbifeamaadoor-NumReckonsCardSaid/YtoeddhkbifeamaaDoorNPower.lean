/- num.pieces.power, num.Scan. -/
import Derived.Test.YtoeddhkbifeamaaDoorNVal
import Derived.Test.YtoeddhkbifeamaaDoorNCutW
namespace Go.Proofs.YtoeddhkbifeamaaDoor
open Go.RowKit
set_option linter.unusedVariables false

set_option maxHeartbeats 1000000 in
set_option maxRecDepth 100000 in
theorem power_any (p : Pc) (w : World) (hf : Figs p.exponent.data.toList) (hs : p.exponent.size ≤ 9223372036854775807) :
    Calls Tryd.prog 40 #[p.val] w fun e w' => e = .returned (.int .i64 (powV p)) ∧ Below w.heap.size w w' := by
  obtain ⟨b, wh, re, dn, E, n⟩ := p
  have HF := Lib.hid hf
  have hl := clipL_le E.data.toList
  obtain ⟨W, hW⟩ : ∃ W, W = w.alloc (.cells #[.bool b, .string wh, .string re, .bool dn, .string E, .int .i64 n] 39) := ⟨_, rfl⟩
  have B0 : W.heap[w.heap.size]? = some (.cells #[.bool b, .string wh, .string re, .bool dn, .string E, .int .i64 n] 39 (0, 0)) := hW ▸ heap_alloc_new _ _
  have hB : Below w.heap.size w W := hW ▸ (Below.refl _ _).alloc (Nat.le_refl _) _
  clear hf
  have hs' : E.size ≤ 9223372036854775807 := hs
  unfold Pc.val
  go_enter Tryd.func40, Tryd.ntmps40
  go_upto_region 1 with (fail)
  rw [← hW]
  have y4 : W.cell? ⟨w.heap.size, 4, none⟩ = some (.string E) := cell_of_row W _ 4 _ _ _ B0
  have y3 : W.cell? ⟨w.heap.size, 3, none⟩ = some (.bool dn) := cell_of_row W _ 3 _ _ _ B0
  have HB := Lib.hid hB
  have HB0 := Lib.hid B0
  have hlt := lt_of_block B0
  have y3i : ∀ k, (W.iter E k).cell? ⟨w.heap.size, 3, none⟩ = some (.bool dn) := fun k => (World.cell?_of_block (w := W) (a := ⟨w.heap.size, 3, none⟩) (Below.heap_alloc _ _ _ hlt)).trans y3
  clear hW hB B0
  go_wp2
  have HY := Lib.hid y3i
  clear y3i y3
  go_loopw [3] (fun n w' => ∃ k : Nat, w' = W.iter E k ∧ n = .int .i64 (clipL (E.data.toList.take k)) ∧ k ≤ E.size) (fun _ w' => E.size - w'.iterPos W.heap.size)
  case atStart => exact ⟨0, rfl, rfl, by omega⟩
  case round =>
    obtain ⟨k, rfl, rfl, hk⟩ := hrel
    have hm := clipL_le (E.data.toList.take k)
    by_cases hp : k < E.size
    · have hff := fig_yes (HF.out.at k hp)
      have hnx := fun ty => run_next_ascii (P := Tryd.prog) W E k ty hp (by omega)
      have HS := Lib.hid (show clipL (E.data.toList.take (k + 1)) = min (10 * clipL (E.data.toList.take k) + ((E[k]'hp).toNat - 48)) 1048576 by rw [take_snoc E k hp, clipL_snoc])
      obtain ⟨m, hme⟩ : ∃ m, m = clipL (E.data.toList.take k) := ⟨_, rfl⟩
      obtain ⟨r, hre⟩ : ∃ r, r = (E[k]'hp).toNat := ⟨_, rfl⟩
      rw [← hre] at hnx hff HS
      rw [← hme] at hm HS ⊢
      clear hme hre
      have hr1 : (48 : Int) ≤ r := by omega
      have hr2 : (r : Int) ≤ 57 := by omega
      have hm2 : (m : Int) ≤ 1048576 := by omega
      clear hff hm
      go_wp2
      all_goals
        go_roundw
        case rel =>
          refine ⟨k + 1, rfl, ?_, by omega⟩
          rw [HS.out]
          congr 1
          omega
        case measure => simp; omega
    · obtain rfl : k = E.size := by omega
      have hnx := fun ty => run_next_end (P := Tryd.prog) W E E.size ty hp
      have y3 := HY.out E.size
      have HE := Lib.hid (show E.data.toList.take E.size = E.data.toList from List.take_of_length_le (by simp))
      rw [HE.out] at hm ⊢
      have hb : Below w.heap.size w (W.iter E E.size) := HB.out.alloc HB.out.size _
      cases dn
      · have HP := Lib.hid (show powV ⟨b, wh, re, false, E, n⟩ = (clipL E.data.toList : Int) from rfl)
        obtain ⟨m, hme⟩ : ∃ m, m = clipL E.data.toList := ⟨_, rfl⟩
        rw [← hme] at hm HP ⊢
        clear hme hl hs
        go_wp2
        go_ret
        exact ⟨ret_i64 HP.out.symm, hb⟩
      · have HP := Lib.hid (show powV ⟨b, wh, re, true, E, n⟩ = -(clipL E.data.toList : Int) from rfl)
        obtain ⟨m, hme⟩ : ∃ m, m = clipL E.data.toList := ⟨_, rfl⟩
        rw [← hme] at hm HP ⊢
        clear hme hl hs
        go_wp2
        go_ret
        exact ⟨ret_i64 HP.out.symm, hb⟩

set_option maxRecDepth 100000 in
theorem scan_any (s : ByteArray) (w : World) (hs : s.size ≤ 9223372036854775807) :
    Calls Tryd.prog 11 #[.string s] w fun e w' => e = .returned (.int .i64 (cutP s).length) ∧ Below w.heap.size w w' := by
  have C := Lib.hid fun W => cut_any s W hs
  obtain ⟨p, hp⟩ : ∃ p, p = cutP s := ⟨_, rfl⟩
  rw [← hp] at C ⊢
  obtain ⟨b, wh, re, dn, E, n⟩ := p
  clear hp
  have hfd : ∀ W : World, (Instr.field 39 (.agg #[.bool b, .string wh, .string re, .bool dn, .string E, .int .i64 n]) 5).run Tryd.prog W = .ok (.int .i64 n) W := fun W => by simp [Instr.field, asAgg, run_underlying Tryd.underlying39, go_sem]
  go_enter Tryd.func11, Tryd.ntmps11
  go_wp2_with fail
  refine (C.out _).mono ?_
  rintro e w' ⟨rfl, hb⟩
  unfold Pc.val
  go_wp2
  go_ret
  exact ⟨rfl, hb⟩
end Go.Proofs.YtoeddhkbifeamaaDoor
