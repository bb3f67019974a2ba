/- What an argument of type [4]api.Point, []api.Point is. -/
import Derived.Test.YtehmdokcdnlcdaaGArgs
namespace Go.Proofs.Ytehmdokcdnlcdaa
open Go.Joins Go.ChangeShapes Go.WideShapes Go.ChangeAt Go.RowKit
set_option linter.unusedVariables false

theorem okWide_arr {w : World} {r : Reach} {base n : Nat} {t e : TypeId} {v : Value} (ht : Try.prog.underlying t = some (.array n e)) (h : Value.okWide Try.prog w r base t v) : ∃ cs, v = .agg cs ∧ cs.size = Try.prog.cellsOf t := by
  simp only [Value.okWide, ht] at h
  obtain ⟨cs, h1, h2, _⟩ := h
  exact ⟨cs, h1, h2⟩
set_option maxRecDepth 100000 in
theorem four_in {H : Type} {enc : TypeId × Value → H} {W : World} {base : Nat} {v : Value} {d : DataW H} {p : List MemPlace} (hv : Value.okWide Try.prog W .any base 24 v) (h : DataW.Trod enc Try.prog W 0 (fun _ => true) true 24 v d p) :
    ∃ x : Q4, v = .agg #[.int .i64 x.a.x, .int .i64 x.a.y, .int .i64 x.b.x, .int .i64 x.b.y, .int .i64 x.c.x, .int .i64 x.c.y, .int .i64 x.d.x, .int .i64 x.d.y] := by
  obtain ⟨cs, rfl, hsz⟩ := okWide_arr Try.underlying24 hv
  rw [cellsFour] at hsz
  obtain ⟨fuel, hf⟩ := h
  obtain ⟨xs, m, _, _, _, hxl, hx⟩ := DataW.trod_array Try.underlying24 hf
  rw [cellsPoint] at hx
  obtain ⟨l⟩ := cs
  have hl : l.length = 8 := hsz
  match l, hl, xs, hxl with
  | [c0, c1, c2, c3, c4, c5, c6, c7], _, [y0, y1, y2, y3], _ =>
    obtain ⟨qa, ea⟩ := two_ints (hx 0 (by omega)) (by simp [Value.cells])
    obtain ⟨qb, eb⟩ := two_ints (hx 1 (by omega)) (by simp [Value.cells])
    obtain ⟨qc, ec⟩ := two_ints (hx 2 (by omega)) (by simp [Value.cells])
    obtain ⟨qd, ed⟩ := two_ints (hx 3 (by omega)) (by simp [Value.cells])
    simp [Value.cells] at ea eb ec ed
    obtain ⟨rfl, rfl⟩ := ea
    obtain ⟨rfl, rfl⟩ := eb
    obtain ⟨rfl, rfl⟩ := ec
    obtain ⟨rfl, rfl⟩ := ed
    exact ⟨⟨qa, qb, qc, qd⟩, rfl⟩
end Go.Proofs.Ytehmdokcdnlcdaa
