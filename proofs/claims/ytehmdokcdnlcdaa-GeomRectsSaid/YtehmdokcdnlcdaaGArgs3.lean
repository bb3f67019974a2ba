/- What an argument of type []api.Point is. -/
import Derived.Test.YtehmdokcdnlcdaaGArgs2
namespace Go.Proofs.Ytehmdokcdnlcdaa
open Go.Joins Go.ChangeShapes Go.WideShapes Go.ChangeAt Go.RowKit Go.Deep
set_option linter.unusedVariables false

structure Sl where
  A : Option Addr
  n : Nat
  c : Nat
  F : Nat → Pt
/-- A slice of points that can be read. -/
def SlOk (W : World) (x : Sl) : Prop := x.n ≤ x.c ∧ x.c ≤ 9223372036854775807 ∧ Pts W x.A x.n x.F ∧ (x.A = none → x.c = 0)
theorem points_one {H : Type} {enc : TypeId × Value → H} {W : World} {base fuel : Nat} {v : Value} {x : DataW H × List MemPlace} (h : DataW.trod enc Try.prog W base (fun _ => true) true fuel 26 [v] = some x) :
    ∃ s : Sl, v = .slice s.A s.n s.c ∧ SlOk W s := by
  rcases open_slice_pairs (f0 := _) (f1 := _) Try.underlying26 Try.underlying23 cellsPoint rfl rfl (by kernel_rfl) (by kernel_rfl) h with ⟨hcs, _⟩ | ⟨a, len, cap, m, n, V0, V1, D0, D1, P0, P1, hcs, hb, hl, hm, hmm, hx, hi⟩
  · simp only [List.cons.injEq, and_true] at hcs
    exact ⟨⟨none, 0, 0, fun _ => ⟨0, 0⟩⟩, hcs, Nat.le_refl _, Nat.zero_le _, ⟨Nat.zero_le _, fun hn => absurd hn (Nat.lt_irrefl 0)⟩, fun _ => rfl⟩
  · simp only [List.cons.injEq, and_true] at hcs
    unfold maxLen at hm
    have hm2 : m = cap := by simpa using hmm
    subst hm2
    have hint : ∀ i, i < m → ∃ q : Pt, V0 i = .int .i64 q.x ∧ V1 i = .int .i64 q.y := fun i him => by
      obtain ⟨_, _, t0, t1⟩ := hi i him
      obtain ⟨a0, e0, _, _⟩ := DataW.trod_int Try.underlying2 t0
      obtain ⟨a1, e1, _, _⟩ := DataW.trod_int Try.underlying2 t1
      simp only [List.cons.injEq, and_true] at e0 e1
      exact ⟨⟨a0, a1⟩, e0, e1⟩
    obtain ⟨F, hF⟩ := Classical.axiomOfChoice (fun i => show ∃ q : Pt, i < m → V0 i = .int .i64 q.x ∧ V1 i = .int .i64 q.y from by
      by_cases q : i < m
      · obtain ⟨x, hx⟩ := hint i q
        exact ⟨x, fun _ => hx⟩
      · exact ⟨⟨0, 0⟩, fun z => absurd z q⟩)
    refine ⟨⟨some a, len, m, F⟩, hcs, hl, by simpa using hm, ⟨Nat.le_trans hl (by simpa using hm), fun h0 => ?_⟩, fun e => by cases e⟩
    obtain ⟨b, off, spot⟩ := a
    have h0 : 0 < len := h0
    have hspot : spot = none := by
      obtain ⟨hc, _⟩ := hi 0 (by omega)
      simpa [Addr.add] using World.cell?_spot hc
    subst hspot
    have e : ∀ k : Nat, (⟨b, off, none⟩ : Addr).add k = ⟨b, off + k, none⟩ := fun k => by
      unfold Addr.add
      split
      · rename_i q; subst q; rfl
      · rfl
    refine ⟨b, off, rfl, fun i him => ?_⟩
    have him : i < len := him
    obtain ⟨c0, c1, _, _⟩ := hi i (by omega)
    rw [e, (hF i (by omega)).1] at c0
    rw [e, (hF i (by omega)).2] at c1
    exact ⟨c0, by rw [Nat.add_assoc]; exact c1⟩
theorem points_in {H : Type} {enc : TypeId × Value → H} {W : World} {base : Nat} {v : Value} {d : DataW H} {p : List MemPlace} (hv : Value.okWide Try.prog W .any base 26 v) (h : DataW.Trod enc Try.prog W 0 (fun _ => true) true 26 v d p) :
    ∃ s : Sl, v = .slice s.A s.n s.c ∧ SlOk W s := by
  obtain ⟨A, n, c, rfl⟩ := okWide_slice Try.underlying26 hv
  obtain ⟨fuel, hf⟩ := h
  exact points_one (v := .slice A n c) hf
end Go.Proofs.Ytehmdokcdnlcdaa
