/- word's Stop: is it a stop word? -/
import Derived.Test.YtoghdllppecblaaDoorQRows
namespace Go.Proofs.YtoghdllppecblaaDoor
open Go.RowKit Go.Shelf
attribute [local go_sem] Oper.semAt_some
set_option linter.unusedVariables false
set_option linter.unusedSimpArgs false

def stopB (l : List UInt8) : Bool := stopL.any fun s => s == l
theorem stop_at {k : Nat} (hk : k < 33) : ∃ r, stopL[k]? = some r := ⟨stopL[k]'(by rw [stop_len]; exact hk), List.getElem?_eq_getElem _⟩
theorem stop_snoc {k : Nat} {r : List UInt8} (h : stopL[k]? = some r) : stopL.take (k + 1) = stopL.take k ++ [r] := by rw [List.take_add_one, h]; rfl
theorem stop_no {k : Nat} {r l : List UInt8} (h : stopL[k]? = some r) (h0 : (stopL.take k).any (fun s => s == l) = false) (hne : r ≠ l) : (stopL.take (k + 1)).any (fun s => s == l) = false := by
  rw [stop_snoc h, List.any_append, h0]
  simp [hne]
theorem stop_yes {k : Nat} {r l : List UInt8} (h : stopL[k]? = some r) (he : r = l) : stopB l = true := by
  unfold stopB
  rw [List.any_eq_true]
  exact ⟨r, List.mem_of_getElem? h, by simpa using he⟩
set_option maxRecDepth 100000 in
set_option maxHeartbeats 4000000 in
theorem stop_any (l : List UInt8) (w : World) (hS : StopT w) : Calls Tryd.prog 10 #[.string (mkB l)] w fun e w' => e = .returned (.bool (stopB l)) ∧ Below w.heap.size w w' := by
  have hld := stop_load hS
  clear hS
  refine (callsIn_wide (n := 5)).1 ?_
  refine callsIn_of_wp Tryd.func10 rfl trivial ?_ rfl
  simp only [Tryd.ntmps10, List.size_toArray, List.length_cons, List.length_nil, Nat.reduceAdd, Nat.reduceSub, Array.replicate_succ, Array.replicate_zero, List.push_toArray, List.append_toArray, List.nil_append, List.cons_append]
  gi_wp2_with (refine opIn_load _ _ rfl _ hld ?_)
  clear hld
  gi_loopw [6] (fun i wr => (∃ k : Nat, k ≤ 33 ∧ i = .int .i64 k ∧ (stopL.take k).any (fun s => s == l) = false) ∧ Below w.heap.size w wr) (fun i _ => 33 - (intOf i).toNat)
  case atStart => exact ⟨⟨0, by omega, rfl, rfl⟩, Below.refl _ _⟩
  case round =>
    obtain ⟨⟨k, hk, rfl, hno⟩, hB⟩ := hrel
    have HB := Lib.hid hB
    clear hB
    by_cases hlt : k < 33
    · obtain ⟨r, hr⟩ := stop_at hlt
      have hix := stop_index wr k r hr
      have hkI : (k : Int) < 33 := by omega
      have hw1 : IntKind.i64.wrap ((k : Int) + 1) = (k : Int) + 1 := IntWalk.i64_in _ (by omega)
      by_cases he : r = l
      · have HE := Lib.hid (stop_yes hr he)
        subst he
        clear hr hno
        gi_wp2_with (refine opIn_index _ _ _ rfl _ hix ?_)
        go_ret
        exact ⟨by rw [HE.out]; rfl, HB.out⟩
      · have HE := Lib.hid (stop_no hr hno he)
        have hne : ((mkB r).toList == (mkB l).toList) = false := by rw [ba_eq]; simp; exact fun h => he (mkB_inj h)
        clear hr hno he
        gi_wp2_with (refine opIn_index _ _ _ rfl _ hix ?_)
        clear hw1 hne
        exact ⟨⟨⟨k + 1, by omega, by first | rfl | go_num | simp, HE.out⟩, HB.out⟩, by simp [intOf]; omega⟩
    · obtain rfl : k = 33 := by omega
      have HE := Lib.hid (show stopB l = false by unfold stopB; rw [← hno, List.take_of_length_le (by rw [stop_len]; omega)])
      clear hno
      gi_wp2
      go_ret
      exact ⟨by rw [HE.out]; rfl, HB.out⟩
end Go.Proofs.YtoghdllppecblaaDoor
