/- the bytes of a row of the call's own, as Unpack reads them. -/
import Derived.Test.YthpfaaindkkpcaaBUnpack3
namespace Go.Proofs.Ythpfaaindkkpcaa
open Go.RowKit Go.Maps
set_option linter.unusedVariables false
set_option linter.unusedSimpArgs false

theorem rb_own {w : World} {base : Nat} {A : Option Addr} {n c : Nat} {xs : List Nat} (h : OwnU w base (.slice A n c) xs) (hw : ∀ x ∈ xs, x < 256) : n = xs.length ∧ xs.length ≤ c ∧ RB w w.heap.size A xs := by
  obtain ⟨e, hb⟩ := own_bytes h hw
  have hc : xs.length ≤ c := by
    obtain ⟨hl, ⟨hv, h0⟩ | ⟨g, cap, cur, hv, hg, hh, r⟩⟩ := h
    · injection hv with h1 h2 h3
      omega
    · injection hv with h1 h2 h3
      have := r.1
      omega
  refine ⟨e, hc, hb.1, hw, fun hn => ?_⟩
  have hp : 0 < xs.length := List.length_pos_iff.2 hn
  obtain ⟨b, o, rfl, hcs⟩ := hb.2.2 hp
  refine ⟨b, o, rfl, cell_in (hcs 0 hp), fun i x hx => ?_⟩
  obtain ⟨hi, rfl⟩ := List.getElem?_eq_some_iff.1 hx
  rw [hcs i hi]
  simp [List.getD_eq_getElem?_getD, hi]
/-- .. and of an argument. -/
theorem rb_bytes {w : World} {A : Option Addr} {n : Nat} {F : Nat → Nat} (h : Bytes w A n F) : RB w w.heap.size A ((List.range n).map F) := by
  refine ⟨by have := h.1; simpa using this, fun x hx => ?_, fun hn => ?_⟩
  · obtain ⟨i, hi, rfl⟩ := List.mem_map.1 hx
    exact h.2.1 i (List.mem_range.1 hi)
  · have hp : 0 < n := by
      rcases Nat.eq_zero_or_pos n with h0 | h0
      · subst h0; exact absurd rfl hn
      · exact h0
    obtain ⟨b, o, rfl, hc⟩ := h.2.2 hp
    refine ⟨b, o, rfl, cell_in (hc 0 hp), fun i x hx => ?_⟩
    obtain ⟨hi, rfl⟩ := List.getElem?_eq_some_iff.1 hx
    simp at hi
    rw [hc i hi]
    simp
end Go.Proofs.Ythpfaaindkkpcaa
