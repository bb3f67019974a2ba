/- Values that came in as arguments: from the form's reading to what the walks ask. -/
import Derived.Test.YtpmhefdalhohdaaDoorVMem
import Derived.ProofKit
import Derived.OpenShut
import Derived.Lib.SmallJoins
import Derived.Deep.Slices
import Derived.Deep.Strs
namespace Go.Proofs.YtpmhefdalhohdaaDoor
open Go.Joins Go.Deep Go.ChangeShapes Go.WideShapes Go.ChangeAt Go.RowKit
set_option linter.unusedVariables false

section
variable {H : Type} {enc : TypeId × Value → H} {w : World} {base : Nat} {held : Bool}

theorem cellsInt : Tryd.prog.cellsOf 3 = 1 := by kernel_rfl
theorem cellsBool : Tryd.prog.cellsOf 4 = 1 := by kernel_rfl
theorem cellsI64 : Tryd.prog.cellsOf 2 = 1 := by kernel_rfl
theorem cellsStr : Tryd.prog.cellsOf 9 = 1 := by kernel_rfl
theorem cellsVs : Tryd.prog.cellsOf 22 = 1 := by kernel_rfl
theorem cellsSs : Tryd.prog.cellsOf 23 = 1 := by kernel_rfl
theorem cellsV : Tryd.prog.cellsOf 25 = 6 := by kernel_rfl

theorem add_plain (b off k : Nat) : ((⟨b, off, none⟩ : Addr).add k) = ⟨b, off + k, none⟩ := by
  unfold Addr.add
  split
  · rename_i q; subst q; rfl
  · rfl
/-- The cells of a row's elements, each in its place. -/
theorem row_at {a : Addr} {m size : Nat} {P : Nat → List Value → Prop} (hs : 0 < size) (hi : ∀ i, i < m → ∃ cs, w.cells? base (a.add (i * size)) size = some cs ∧ P i cs) (hm : 0 < m) :
    ∃ b o, a = ⟨b, o, none⟩ ∧ ∀ i, i < m → ∃ cs, cs.length = size ∧ P i cs ∧ ∀ j, j < size → w.cell? ⟨b, o + i * size + j, none⟩ = cs[j]? := by
  obtain ⟨b, off, spot⟩ := a
  have hspot : spot = none := by
    obtain ⟨cs', hc, _⟩ := hi 0 hm
    obtain ⟨_, hcl, hat⟩ := World.cells?_some hc
    have h0 := hat 0 (by omega)
    have hv : cs'[0]? = some (cs'[0]'(by omega)) := List.getElem?_eq_getElem (by omega)
    rw [hv] at h0
    simpa [Addr.add] using World.cell?_spot h0
  subst hspot
  refine ⟨b, off, rfl, fun i him => ?_⟩
  obtain ⟨cs', hc, ht⟩ := hi i him
  obtain ⟨_, hcl, hat⟩ := World.cells?_some hc
  refine ⟨cs', hcl, ht, fun j hj => ?_⟩
  rw [← hat j hj, add_plain, add_plain]
theorem strs_in {fuel : Nat} {v : Value} {x : DataW H × List MemPlace} (h : DataW.trod enc Tryd.prog w base (fun _ => true) held fuel 23 [v] = some x) :
    ∃ (A : Option Addr) (n c : Nat) (g : Nat → ByteArray), v = .slice A n c ∧ n ≤ c ∧ c ≤ 9223372036854775807 ∧ ∀ i, i < n → cellAt w A i = some (.string (g i)) ∧ (g i).size ≤ 9223372036854775807 := by
  rcases open_slice Tryd.underlying23 h with ⟨hcs, _⟩ | ⟨a, len, cap, m, n, D, Pl, hcs, hb, hl, hm, hmm, hx, hi⟩
  · simp only [List.cons.injEq, and_true] at hcs
    exact ⟨none, 0, 0, fun _ => ByteArray.empty, hcs, by omega, by omega, fun i hi => absurd hi (by omega)⟩
  · simp only [List.cons.injEq, and_true] at hcs
    unfold maxLen at hm
    rw [cellsStr] at hi
    have hm2 : m = cap := by simpa using hmm
    subst hm2
    rcases Nat.eq_zero_or_pos m with h0 | h0
    · subst h0
      exact ⟨some a, len, 0, fun _ => ByteArray.empty, hcs, hl, by omega, fun i hi => absurd hi (by omega)⟩
    · obtain ⟨b, o, rfl, hX⟩ := row_at (w := w) (base := base) (m := m) (size := 1) (P := fun i cs => ∃ y, DataW.trod enc Tryd.prog w base (fun _ => true) held n 9 cs = some y) (by decide) (fun i hi2 => by
        obtain ⟨cs, h1, h2⟩ := hi i hi2
        exact ⟨cs, h1, _, h2⟩) h0
      obtain ⟨g, hg⟩ := Classical.axiomOfChoice (fun i => show ∃ s : ByteArray, i < m → cellAt w (some ⟨b, o, none⟩) i = some (.string s) ∧ s.size ≤ 9223372036854775807 from by
        by_cases q : i < m
        · obtain ⟨cs, hcl, ⟨y, ht⟩, hc⟩ := hX i q
          obtain ⟨s, e, _, hs⟩ := DataW.trod_string Tryd.underlying9 ht
          refine ⟨s, fun _ => ⟨?_, ?_⟩⟩
          · rw [cellAt_some]
            have := hc 0 (by omega)
            rw [Nat.mul_one, Nat.add_zero] at this
            rw [this, e]
            rfl
          · unfold maxLen at hs; exact hs
        · exact ⟨ByteArray.empty, fun z => absurd z q⟩)
      exact ⟨some ⟨b, o, none⟩, len, m, g, hcs, hl, by omega, fun i hi => hg i (by omega)⟩
set_option maxRecDepth 100000 in
theorem v_in : ∀ (fuel : Nat) {cs : List Value} {x : DataW H × List MemPlace}, DataW.trod enc Tryd.prog w base (fun _ => true) held fuel 25 cs = some x → ∃ t : VT, InV w t cs.toArray := by
  intro fuel
  induction fuel using Nat.strongRecOn with
  | ind fuel ih =>
    intro cs x h
    obtain ⟨xs, n, hn, _, hl, hlen, hf⟩ := DataW.trod_struct Tryd.underlying25 h
    rw [cellsV] at hl
    match cs, hl with
    | [c0, c1, c2, c3, c4, c5], _ =>
      match xs, hlen with
      | [y0, y1, y2, y3, y4, y5], _ =>
        have t0 : DataW.trod enc Tryd.prog w base (fun _ => true) held n 3 [c0] = some y0 := by simpa [cellsInt] using hf 0 _ rfl
        have t1 : DataW.trod enc Tryd.prog w base (fun _ => true) held n 4 [c1] = some y1 := by simpa [cellsBool] using hf 1 _ rfl
        have t2 : DataW.trod enc Tryd.prog w base (fun _ => true) held n 2 [c2] = some y2 := by simpa [cellsI64] using hf 2 _ rfl
        have t3 : DataW.trod enc Tryd.prog w base (fun _ => true) held n 9 [c3] = some y3 := by simpa [cellsStr] using hf 3 _ rfl
        have t4 : DataW.trod enc Tryd.prog w base (fun _ => true) held n 22 [c4] = some y4 := by simpa [cellsVs] using hf 4 _ rfl
        have t5 : DataW.trod enc Tryd.prog w base (fun _ => true) held n 23 [c5] = some y5 := by simpa [cellsSs] using hf 5 _ rfl
        obtain ⟨z0, e0, _, w0⟩ := DataW.trod_int Tryd.underlying3 t0
        obtain ⟨z1, e1, _⟩ := DataW.trod_bool Tryd.underlying4 t1
        obtain ⟨z2, e2, _, w2⟩ := DataW.trod_int Tryd.underlying2 t2
        obtain ⟨z3, e3, _, hs⟩ := DataW.trod_string Tryd.underlying9 t3
        obtain ⟨B, q, d, g, e5, hqd, hd, hnm⟩ := strs_in t5
        simp only [List.cons.injEq, and_true] at e0 e1 e2 e3
        subst e0 e1 e2 e3 e5
        have b0 : In64 z0 := by have h := w0; simp [Lit.wf] at h; exact h
        have b2 : In64 z2 := by have h := w2; simp [Lit.wf] at h; exact h
        unfold maxLen at hs
        rcases DataW.trod_slice Tryd.underlying22 t4 with ⟨hcs, _⟩ | ⟨a, len, cap, elems, rest, n', hn', hcs, _, hb, hl, hm, hel0, hel, _⟩
        · simp only [List.cons.injEq, and_true] at hcs
          subst hcs
          exact ⟨.mk z0 z1 z2 z3 0 (fun _ => .no) q g, none, 0, B, d, rfl, b0, b2, hs, Nat.le_refl _, by omega, hqd, hd, (fun i hi => absurd hi (by omega)), hnm⟩
        · simp only [List.cons.injEq, and_true] at hcs
          subst hcs
          unfold maxLen at hm
          rw [cellsV] at hel
          rcases Nat.eq_zero_or_pos len with h0 | h0
          · subst h0
            exact ⟨.mk z0 z1 z2 z3 0 (fun _ => .no) q g, some a, cap, B, d, rfl, b0, b2, hs, hl, by omega, hqd, hd, (fun i hi => absurd hi (by omega)), hnm⟩
          · obtain ⟨b, o, rfl, hX⟩ := row_at (w := w) (base := base) (m := len) (size := 6) (P := fun i cs => ∃ t : VT, InV w t cs.toArray) (by decide) (fun i hi2 => by
              have k := hel i hi2
              rw [List.getElem?_eq_getElem (by omega)] at k
              obtain ⟨cs', h1, h2⟩ := Option.bind_eq_some_iff.1 k
              exact ⟨cs', h1, ih n' (by omega) h2⟩) h0
            obtain ⟨f, hf2⟩ := Classical.axiomOfChoice (fun i => show ∃ t : VT, i < len → ∃ ds, InV w t ds ∧ ∀ j (h : j < ds.size), cellAt w (some ⟨b, o, none⟩) (6 * i + j) = some ds[j] from by
              by_cases q : i < len
              · obtain ⟨cs', hcl, ⟨t, ht⟩, hc⟩ := hX i q
                refine ⟨t, fun _ => ⟨cs'.toArray, ht, fun j hj => ?_⟩⟩
                have hj2 : j < cs'.length := by simpa using hj
                rw [cellAt_some, ← Nat.add_assoc, Nat.mul_comm 6 i, hc j (by omega), List.getElem?_eq_getElem hj2]
                rfl
              · exact ⟨.no, fun z => absurd z q⟩)
            exact ⟨.mk z0 z1 z2 z3 len f q g, some ⟨b, o, none⟩, cap, B, d, rfl, b0, b2, hs, hl, by omega, hqd, hd, hf2, hnm⟩
end
end Go.Proofs.YtpmhefdalhohdaaDoor
