/- What an argument of type score.Stats, [2]int, [4]int, uint64 is. -/
import Derived.Test.YtcacfidejhmieaaAPlain
import Derived.Test.YtcacfidejhmieaaProg
import Derived.ProofKit
import Derived.OpenShut
import Derived.Lib.SmallJoins
import Derived.Deep.SlicePairs
namespace Go.Proofs.Ytcacfidejhmieaa
open Go.Joins Go.ChangeShapes Go.WideShapes Go.ChangeAt Go.RowKit
set_option linter.unusedVariables false

theorem cellsStats : Try.prog.cellsOf 27 = 2 := by kernel_rfl
theorem cellsTwo : Try.prog.cellsOf 28 = 2 := by kernel_rfl
theorem cellsQuad : Try.prog.cellsOf 40 = 4 := by kernel_rfl
theorem cellsInt : Try.prog.cellsOf 3 = 1 := by kernel_rfl
theorem u64_wf {a : Int} (h : (Lit.int .u64 a).wf = true) : 0 ≤ a ∧ a < 18446744073709551616 := by
  simp only [Lit.wf, Bool.and_eq_true, decide_eq_true_eq] at h
  have h2 : IntKind.u64.max = 18446744073709551615 := rfl
  have h3 : IntKind.u64.min = 0 := rfl
  omega
theorem stats_in {H : Type} {enc : TypeId × Value → H} {W : World} {base : Nat} {v : Value} {d : DataW H} {p : List MemPlace} (hv : Value.okWide Try.prog W .any base 27 v) (h : DataW.Trod enc Try.prog W 0 (fun _ => true) true 27 v d p) :
    ∃ x : Int × Int, v = .agg #[.int .i64 x.1, .int .i64 x.2] := by
  obtain ⟨c0, c1, y0, y1, m, rfl, rfl, rfl, hy0, hy1⟩ := open_agg2 Try.underlying27 (by kernel_rfl) cellsStats hv h
  obtain ⟨a, e0, r0, wa⟩ := DataW.trod_int Try.underlying3 hy0
  obtain ⟨b, e1, r1, wb⟩ := DataW.trod_int Try.underlying3 hy1
  simp at e0 e1
  subst e0 e1
  exact ⟨⟨a, b⟩, rfl⟩
theorem okWide_arr {w : World} {r : Reach} {base n : Nat} {t e : TypeId} {v : Value} (ht : Try.prog.underlying t = some (.array n e)) (h : Value.okWide Try.prog w r base t v) : ∃ cs, v = .agg cs ∧ cs.size = Try.prog.cellsOf t := by
  simp only [Value.okWide, ht] at h
  obtain ⟨cs, h1, h2, _⟩ := h
  exact ⟨cs, h1, h2⟩
theorem one_int {H : Type} {enc : TypeId × Value → H} {W : World} {m : Nat} {cs : List Value} {x : DataW H × List MemPlace} (h : DataW.trod enc Try.prog W 0 (fun _ => true) true m 3 cs = some x) (hl : cs.length = 1) : ∃ a : Int, cs = [.int .i64 a] := by
  obtain ⟨a, e0, r0, wa⟩ := DataW.trod_int Try.underlying3 h
  exact ⟨a, e0⟩
set_option maxRecDepth 100000 in
theorem two_in {H : Type} {enc : TypeId × Value → H} {W : World} {base : Nat} {v : Value} {d : DataW H} {p : List MemPlace} (hv : Value.okWide Try.prog W .any base 28 v) (h : DataW.Trod enc Try.prog W 0 (fun _ => true) true 28 v d p) :
    ∃ x : Int × Int, v = .agg #[.int .i64 x.1, .int .i64 x.2] := by
  obtain ⟨cs, rfl, hsz⟩ := okWide_arr Try.underlying28 hv
  rw [cellsTwo] at hsz
  obtain ⟨fuel, hf⟩ := h
  obtain ⟨xs, m, _, _, _, hxl, hx⟩ := DataW.trod_array Try.underlying28 hf
  rw [cellsInt] at hx
  obtain ⟨l⟩ := cs
  have hl : l.length = 2 := hsz
  match l, hl, xs, hxl with
  | [c0, c1], _, [y0, y1], _ =>
    obtain ⟨a, ea⟩ := one_int (hx 0 (by omega)) (by simp [Value.cells])
    obtain ⟨b, eb⟩ := one_int (hx 1 (by omega)) (by simp [Value.cells])
    simp [Value.cells] at ea eb
    subst ea eb
    exact ⟨⟨a, b⟩, rfl⟩
set_option maxRecDepth 100000 in
theorem quad_in {H : Type} {enc : TypeId × Value → H} {W : World} {base : Nat} {v : Value} {d : DataW H} {p : List MemPlace} (hv : Value.okWide Try.prog W .any base 40 v) (h : DataW.Trod enc Try.prog W 0 (fun _ => true) true 40 v d p) :
    ∃ x : (Int × Int) × (Int × Int), v = .agg #[.int .i64 x.1.1, .int .i64 x.1.2, .int .i64 x.2.1, .int .i64 x.2.2] := by
  obtain ⟨cs, rfl, hsz⟩ := okWide_arr Try.underlying40 hv
  rw [cellsQuad] at hsz
  obtain ⟨fuel, hf⟩ := h
  obtain ⟨xs, m, _, _, _, hxl, hx⟩ := DataW.trod_array Try.underlying40 hf
  rw [cellsInt] at hx
  obtain ⟨l⟩ := cs
  have hl : l.length = 4 := hsz
  match l, hl, xs, hxl with
  | [c0, c1, c2, c3], _, [y0, y1, y2, y3], _ =>
    obtain ⟨a, ea⟩ := one_int (hx 0 (by omega)) (by simp [Value.cells])
    obtain ⟨b, eb⟩ := one_int (hx 1 (by omega)) (by simp [Value.cells])
    obtain ⟨c, ec⟩ := one_int (hx 2 (by omega)) (by simp [Value.cells])
    obtain ⟨e, ed⟩ := one_int (hx 3 (by omega)) (by simp [Value.cells])
    simp [Value.cells] at ea eb ec ed
    subst ea eb ec ed
    exact ⟨⟨⟨a, b⟩, ⟨c, e⟩⟩, rfl⟩
end Go.Proofs.Ytcacfidejhmieaa
