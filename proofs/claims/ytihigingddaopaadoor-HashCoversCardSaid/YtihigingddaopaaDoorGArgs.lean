/- What an argument of type api.Point, api.Rect, [4]api.Point, []api.Point is. -/
import Derived.Test.YtihigingddaopaaDoorGMay
import Derived.Test.YtihigingddaopaaDoorWIn
import Derived.ProofKit
import Derived.OpenShut
import Derived.Lib.SmallJoins
import Derived.Deep.SlicePairs
namespace Go.Proofs.YtihigingddaopaaDoor
open Go.Joins Go.ChangeShapes Go.WideShapes Go.ChangeAt Go.RowKit
set_option linter.unusedVariables false

theorem cellsPoint : Tryd.prog.cellsOf 54 = 2 := by kernel_rfl
theorem cellsRect : Tryd.prog.cellsOf 23 = 4 := by kernel_rfl
theorem cellsFour : Tryd.prog.cellsOf 55 = 8 := by kernel_rfl
theorem point_in {H : Type} {enc : TypeId × Value → H} {W : World} {base : Nat} {v : Value} {d : DataW H} {p : List MemPlace} (hv : Value.okWide Tryd.prog W .any base 54 v) (h : DataW.Trod enc Tryd.prog W 0 (fun _ => true) true 54 v d p) :
    ∃ x : Pt, v = .agg #[.int .i64 x.x, .int .i64 x.y] := by
  obtain ⟨c0, c1, y0, y1, m, rfl, rfl, rfl, hy0, hy1⟩ := open_agg2 Tryd.underlying54 (by kernel_rfl) cellsPoint hv h
  obtain ⟨a, e0, r0, wa⟩ := DataW.trod_int Tryd.underlying2 hy0
  obtain ⟨b, e1, r1, wb⟩ := DataW.trod_int Tryd.underlying2 hy1
  simp at e0 e1
  subst e0 e1
  exact ⟨⟨a, b⟩, rfl⟩
theorem rect_in {H : Type} {enc : TypeId × Value → H} {W : World} {base : Nat} {v : Value} {d : DataW H} {p : List MemPlace} (hv : Value.okWide Tryd.prog W .any base 23 v) (h : DataW.Trod enc Tryd.prog W 0 (fun _ => true) true 23 v d p) :
    ∃ x : Rc, v = .agg #[.int .i64 x.x0, .int .i64 x.y0, .int .i64 x.x1, .int .i64 x.y1] := by
  obtain ⟨c0, c1, c2, c3, y0, y1, y2, y3, m, rfl, rfl, rfl, hy0, hy1, hy2, hy3⟩ := open_agg4 Tryd.underlying23 (by kernel_rfl) cellsRect hv h
  obtain ⟨a, e0, r0, wa⟩ := DataW.trod_int Tryd.underlying2 hy0
  obtain ⟨b, e1, r1, wb⟩ := DataW.trod_int Tryd.underlying2 hy1
  obtain ⟨c, e2, r2, wc⟩ := DataW.trod_int Tryd.underlying2 hy2
  obtain ⟨dd, e3, r3, wd⟩ := DataW.trod_int Tryd.underlying2 hy3
  simp at e0 e1 e2 e3
  subst e0 e1 e2 e3
  exact ⟨⟨a, b, c, dd⟩, rfl⟩
structure Q4 where
  a : Pt
  b : Pt
  c : Pt
  d : Pt
set_option maxRecDepth 100000 in
theorem two_ints {H : Type} {enc : TypeId × Value → H} {W : World} {m : Nat} {cs : List Value} {x : DataW H × List MemPlace} (h : DataW.trod enc Tryd.prog W 0 (fun _ => true) true m 54 cs = some x) (hl : cs.length = 2) :
    ∃ q : Pt, cs = [.int .i64 q.x, .int .i64 q.y] := by
  obtain ⟨xs, k, hk, hxy, _, hxl, hf⟩ := DataW.trod_struct Tryd.underlying54 h
  match cs, hl with
  | [v0, v1], _ =>
    have g0 := hf 0 _ rfl
    have g1 := hf 1 _ rfl
    have q0 : Tryd.prog.cellsOf 2 = 1 := by kernel_rfl
    simp [q0] at g0 g1
    match xs, hxl with
    | [y0, y1], _ =>
      simp at g0 g1
      obtain ⟨a, e0, r0, wa⟩ := DataW.trod_int Tryd.underlying2 g0
      obtain ⟨b, e1, r1, wb⟩ := DataW.trod_int Tryd.underlying2 g1
      simp at e0 e1
      subst e0 e1
      exact ⟨⟨a, b⟩, rfl⟩
end Go.Proofs.YtihigingddaopaaDoor
