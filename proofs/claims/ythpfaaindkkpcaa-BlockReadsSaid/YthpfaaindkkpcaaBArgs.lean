/- What an argument of type waywiserref18.Posting, []waywiserref18.Posting, []int is. -/
import Derived.Test.YthpfaaindkkpcaaBPsts
import Derived.ProofKit
import Derived.OpenShut
import Derived.Lib.SmallJoins
import Derived.Deep.Slices
import Derived.Deep.Strs
namespace Go.Proofs.Ythpfaaindkkpcaa
open Go.Joins Go.Deep Go.ChangeShapes Go.WideShapes Go.ChangeAt Go.RowKit
set_option linter.unusedVariables false

section
variable {H : Type} {enc : TypeId × Value → H} {w : World} {base : Nat} {held : Bool}
theorem cells_int : Try.prog.cellsOf 3 = 1 := by kernel_rfl
theorem cells_ints : Try.prog.cellsOf 42 = 1 := by kernel_rfl
theorem cells_pst : Try.prog.cellsOf 44 = 3 := by kernel_rfl
theorem ints_in {fuel : Nat} {v : Value} {x : DataW H × List MemPlace} (h : DataW.trod enc Try.prog w base (fun _ => true) held fuel 42 [v] = some x) :
    ∃ A n c fa, v = .slice A n c ∧ Ints w A n fa ∧ (A = none → n = 0 ∧ c = 0) := by
  rcases open_ints Try.underlying42 Try.underlying3 cells_int h with ⟨hcs, _⟩ | ⟨x, l, k, zs, hcs, _, hl, hm, hz, _, hcell, hwz⟩
  · simp only [List.cons.injEq, and_true] at hcs
    exact ⟨none, 0, 0, fun _ => 0, hcs, ⟨by omega, fun i hi => absurd hi (by omega), fun hn => absurd hn (by omega)⟩, fun _ => ⟨rfl, rfl⟩⟩
  · simp only [List.cons.injEq, and_true] at hcs
    unfold maxLen at hm
    have hzl : zs.length = k := by simpa using hz
    refine ⟨some x, l, k, fun i => zs.getD i 0, hcs, ⟨by omega, fun i hi => ?_, fun hn => ?_⟩, fun e => by cases e⟩
    · have hb := bounds_i64 (hwz (zs.getD i 0) (by
        have hi2 : i < zs.length := by omega
        rw [List.getD_eq_getElem?_getD, List.getElem?_eq_getElem hi2]
        exact List.getElem_mem hi2))
      exact hb
    · obtain ⟨b, off, spot⟩ := x
      have h0 := hcell 0 (by omega)
      have hspot : spot = none := by simpa [Addr.add] using World.cell?_spot h0
      subst hspot
      refine ⟨b, off, rfl, fun i hi => ?_⟩
      have h1 := hcell i (by omega)
      rw [← h1]
      unfold Addr.add
      split
      · rename_i q; subst q; rfl
      · rfl
theorem pst_cells {fuel : Nat} {cs : List Value} {x : DataW H × List MemPlace} (h : DataW.trod enc Try.prog w base (fun _ => true) held fuel 44 cs = some x) (hl : cs.length = 3) :
    ∃ p : Pst, cs = [.int .i64 p.row, .int .i64 p.len, .slice p.A p.n p.c] ∧ Ints w p.A p.n p.F ∧ In64 p.row ∧ In64 p.len ∧ (p.A = none → p.c = 0) := by
  obtain ⟨xs, n, _, _, _, hlen, hf⟩ := DataW.trod_struct Try.underlying44 h
  match cs, hl with
  | [c0, c1, c2], _ =>
    match xs, hlen with
    | [y0, y1, y2], _ =>
      have t0 : DataW.trod enc Try.prog w base (fun _ => true) held n 3 [c0] = some y0 := by simpa [cells_int] using hf 0 _ rfl
      have t1 : DataW.trod enc Try.prog w base (fun _ => true) held n 3 [c1] = some y1 := by simpa [cells_int] using hf 1 _ rfl
      have t2 : DataW.trod enc Try.prog w base (fun _ => true) held n 42 [c2] = some y2 := by simpa [cells_ints] using hf 2 _ rfl
      obtain ⟨z0, e0, _, w0⟩ := DataW.trod_int Try.underlying3 t0
      obtain ⟨z1, e1, _, w1⟩ := DataW.trod_int Try.underlying3 t1
      obtain ⟨A, m, c, fa, e2, hI, hnil⟩ := ints_in t2
      simp only [List.cons.injEq, and_true] at e0 e1
      subst e0 e1 e2
      exact ⟨⟨z0, z1, A, m, c, fa⟩, rfl, hI, bounds_i64 w0, bounds_i64 w1, fun e => (hnil e).2⟩
theorem pst_in {fuel : Nat} {v : Value} {x : DataW H × List MemPlace} (hv : ∃ cs, v = .agg cs ∧ cs.size = 3) (h : DataW.trod enc Try.prog w base (fun _ => true) held fuel 44 v.cells.toList = some x) :
    ∃ p : Pst, v = .agg #[.int .i64 p.row, .int .i64 p.len, .slice p.A p.n p.c] ∧ Ints w p.A p.n p.F ∧ In64 p.row ∧ In64 p.len ∧ (p.A = none → p.c = 0) := by
  obtain ⟨cs, rfl, hs⟩ := hv
  obtain ⟨l⟩ := cs
  obtain ⟨p, hp, r⟩ := pst_cells (cs := l) (by simpa [Value.cells] using h) hs
  subst hp
  exact ⟨p, rfl, r⟩
theorem pst_at {fuel b o : Nat} {cs : List Value} {x : DataW H × List MemPlace} (h : DataW.trod enc Try.prog w base (fun _ => true) held fuel 44 cs = some x) (hl : cs.length = 3)
    (hc : ∀ j, j < 3 → w.cell? ⟨b, o + j, none⟩ = cs[j]?) : ∃ p : Pst, (Ints w p.A p.n p.F ∧ In64 p.row ∧ In64 p.len ∧ (p.A = none → p.c = 0)) ∧ PstAt w b o p := by
  obtain ⟨p, hp, r⟩ := pst_cells h hl
  subst hp
  exact ⟨p, r, hc 0 (by omega), hc 1 (by omega), hc 2 (by omega)⟩
def p0 : Pst := ⟨0, 0, none, 0, 0, fun _ => 0⟩
theorem psts_in {fuel : Nat} {v : Value} {x : DataW H × List MemPlace} (h : DataW.trod enc Try.prog w base (fun _ => true) held fuel 27 [v] = some x) :
    ∃ A n c P, v = .slice A n c ∧ Psts w A n P ∧ (A = none → c = 0) := by
  rcases open_slice Try.underlying27 h with ⟨hcs, _⟩ | ⟨a, len, cap, m, n, D, Pl, hcs, hb, hl, hm, hmm, hx, hi⟩
  · simp only [List.cons.injEq, and_true] at hcs
    exact ⟨none, 0, 0, fun _ => p0, hcs, ⟨by omega, fun i hi => absurd hi (by omega), fun hn => absurd hn (by omega)⟩, fun _ => rfl⟩
  · simp only [List.cons.injEq, and_true] at hcs
    unfold maxLen at hm
    rw [cells_pst] at hi
    have hm2 : m = cap := by simpa using hmm
    subst hm2
    have hall : 0 < m → ∃ b o, a = ⟨b, o, none⟩ ∧ ∀ i, i < m → ∃ p : Pst, (Ints w p.A p.n p.F ∧ In64 p.row ∧ In64 p.len ∧ (p.A = none → p.c = 0)) ∧ PstAt w b (o + i * 3) p := fun h0 => by
      obtain ⟨b, off, spot⟩ := a
      have hspot : spot = none := by
        obtain ⟨cs', hc, _⟩ := hi 0 h0
        obtain ⟨_, hcl, hat⟩ := World.cells?_some hc
        have h0 := hat 0 (by omega)
        have hv : cs'[0]? = some (cs'[0]'(by omega)) := List.getElem?_eq_getElem (by omega)
        rw [hv] at h0
        simpa [Addr.add] using World.cell?_spot h0
      subst hspot
      refine ⟨b, off, rfl, fun i him => ?_⟩
      obtain ⟨cs', hc, ht⟩ := hi i him
      obtain ⟨_, hcl, hat⟩ := World.cells?_some hc
      refine pst_at ht hcl fun j hj => ?_
      have hj := hat j hj
      rw [← hj]
      have e : ∀ k l : Nat, ((⟨b, off, none⟩ : Addr).add k).add l = ⟨b, off + k + l, none⟩ := fun k l => by
        unfold Addr.add
        split
        · rename_i q; subst q; split
          · rename_i q; subst q; rfl
          · rfl
        · split
          · rename_i q; subst q; rfl
          · rfl
      rw [e]
    rcases Nat.eq_zero_or_pos m with h0 | h0
    · subst h0
      exact ⟨some a, len, 0, fun _ => p0, hcs, ⟨by omega, fun i hi => absurd hi (by omega), fun hn => absurd hn (by omega)⟩, fun e => by cases e⟩
    · obtain ⟨b, o, rfl, hX⟩ := hall h0
      obtain ⟨X, hX⟩ := Classical.axiomOfChoice (fun i => show ∃ p : Pst, i < m → (Ints w p.A p.n p.F ∧ In64 p.row ∧ In64 p.len ∧ (p.A = none → p.c = 0)) ∧ PstAt w b (o + i * 3) p from by
        by_cases q : i < m
        · obtain ⟨X, hX⟩ := hX i q
          exact ⟨X, fun _ => hX⟩
        · exact ⟨p0, fun z => absurd z q⟩)
      exact ⟨some ⟨b, o, none⟩, len, m, X, hcs, ⟨by omega, fun i hi => (hX i (by omega)).1, fun _ => ⟨b, o, rfl, fun i hi => (hX i (by omega)).2⟩⟩, fun e => by cases e⟩
end
end Go.Proofs.Ythpfaaindkkpcaa
