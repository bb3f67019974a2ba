/- word: what the row's two listed tables give a walk. -/
import Derived.Test.YtoghdllppecblaaDoorRows
import Derived.Test.YtoghdllppecblaaDoorQTab
import Derived.Lib.LaidU8
import Derived.LaidMore
import Derived.Lay
import Derived.ChangeArms
namespace Go.Proofs.YtoghdllppecblaaDoor
open Go.RowKit
set_option linter.unusedVariables false
set_option linter.unusedSimpArgs false

def laid : List (String × DataW Unit) := [("waywiser/word.table", Rows.laid_waywiser_word_table), ("waywiser/word.stops", Rows.laid_waywiser_word_stops)]
theorem table_g : Tryd.prog.globalNamed "waywiser/word.table" = some 1 := by kernel_rfl
theorem stops_g : Tryd.prog.globalNamed "waywiser/word.stops" = some 0 := by kernel_rfl
theorem table_t : (Tryd.prog.globals[1]?).map (·.type) = some 56 := by kernel_rfl
theorem stops_t : (Tryd.prog.globals[0]?).map (·.type) = some 39 := by kernel_rfl
def rowD (r : Rw) : DataW Unit := .agg [.lit (.int .i32 r.1), .lit (.int .i32 r.2.1), .lit (.string r.2.2)]
theorem table_data : (Rows.laid_waywiser_word_table : DataW Unit) = .agg (tabL.map rowD) := rfl
theorem stops_data : (Rows.laid_waywiser_word_stops : DataW Unit) = .agg (stopL.map fun l => .lit (.string l)) := rfl
theorem at_of_take {cs : List Value} {k : Nat} {v : Value} (h : (cs.drop k).take 1 = [v]) : cs[k]? = some v := by
  have := congrArg (·[0]?) h
  simpa [List.getElem?_take, List.getElem?_drop] using this
theorem cells_str : Tryd.prog.cellsOf 9 = 1 := by kernel_rfl
theorem cells_i32 : Tryd.prog.cellsOf 21 = 1 := by kernel_rfl
theorem cells_row : Tryd.prog.cellsOf 51 = 3 := by kernel_rfl
theorem str_of {s : ByteArray} {l : List UInt8} (h : s.data.toList = l) : s = mkB l := by rw [← h, mkB_toList]
/-- One row: from, to, what they become. -/
theorem row_cells {fuel : Nat} {w : World} {cs : List Value} {r : Rw} {p : List MemPlace} (h : DataW.trod (fun _ => ()) Tryd.prog w 0 (fun _ => true) false fuel 51 cs = some (rowD r, p)) :
    cs[0]? = some (.int .i32 r.1) ∧ cs[1]? = some (.int .i32 r.2.1) ∧ cs[2]? = some (.string (mkB r.2.2)) := by
  obtain ⟨xs, n, rfl, hx, hl, hxl, hall⟩ := DataW.trod_struct Tryd.underlying51 h
  have hx3 : xs.map (·.1) = [.lit (.int .i32 r.1), .lit (.int .i32 r.2.1), .lit (.string r.2.2)] := by
    have := congrArg Prod.fst hx
    simpa [rowD] using this.symm
  obtain ⟨x0, x1, x2, rfl⟩ : ∃ x0 x1 x2, xs = [x0, x1, x2] := by
    match xs, hx3 with
    | [x0, x1, x2], _ => exact ⟨x0, x1, x2, rfl⟩
  simp only [List.map_cons, List.map_nil, List.cons.injEq, and_true] at hx3
  obtain ⟨e0, e1, e2⟩ := hx3
  have f0 := hall 0 _ rfl
  have f1 := hall 1 _ rfl
  have f2 := hall 2 _ rfl
  change DataW.trod _ _ _ _ _ _ _ 21 ((cs.drop 0).take (Tryd.prog.cellsOf 21)) = some x0 at f0
  change DataW.trod _ _ _ _ _ _ _ 21 ((cs.drop 1).take (Tryd.prog.cellsOf 21)) = some x1 at f1
  change DataW.trod _ _ _ _ _ _ _ 9 ((cs.drop 2).take (Tryd.prog.cellsOf 9)) = some x2 at f2
  rw [cells_i32] at f0 f1
  rw [cells_str] at f2
  refine ⟨?_, ?_, ?_⟩
  · obtain ⟨z, hz, hx', _⟩ := DataW.trod_int Tryd.underlying21 f0
    rw [hx'] at e0
    cases e0
    exact at_of_take hz
  · obtain ⟨z, hz, hx', _⟩ := DataW.trod_int Tryd.underlying21 f1
    rw [hx'] at e1
    cases e1
    exact at_of_take hz
  · obtain ⟨z, hz, hx', _⟩ := DataW.trod_string Tryd.underlying9 f2
    rw [hx'] at e2
    have e3 : z.data.toList = r.2.2 := by injection e2 with e2; injection e2
    rw [str_of e3] at hz
    exact at_of_take hz
theorem of_laid {W : World} (h : laidMetH Tryd.prog laid W) : TabT W ∧ StopT W := by
  rw [MakeChecks.laidMetH_plain _ _ _ (by kernel_rfl)] at h
  refine ⟨fun j v hj => ?_, fun j v hj => ?_⟩
  · obtain ⟨g, t, cs, fuel, p, hg, hty, hvar, hd⟩ := Lib.laidMet.reads h (.head _)
    obtain rfl := Option.some.inj (table_g.symm.trans hg)
    obtain rfl := Option.some.inj (table_t.symm.trans hty)
    rw [table_data] at hd
    have hj120 : j < 120 := by have := (List.getElem?_eq_some_iff.1 hj).1; rw [tabC_len] at this; exact this
    obtain ⟨i, k, hk, rfl⟩ : ∃ i k, k < 3 ∧ j = i * 3 + k := ⟨j / 3, j % 3, by omega, by omega⟩
    obtain ⟨r, hr⟩ := tab_at (k := i) (by omega)
    obtain ⟨fuel', d, q, hdi, he⟩ := Lib.array_elem Tryd.underlying56 hd i (by omega)
    rw [List.getElem?_map, hr] at hdi
    injection hdi with hdi
    subst hdi
    rw [cells_row] at he
    obtain ⟨r0, r1, r2⟩ := row_cells he
    have hf := flat3 tabL i r hr k hk
    have hv : tabC[i * 3 + k]? = (cells3 r)[k]? := hf
    rw [hv] at hj
    rw [Nat.zero_add, World.var?_cell hg hvar (i * 3 + k), ← Array.getElem?_toList, ← hj]
    rcases k with _ | _ | _ | k
    · simpa [List.getElem?_take, List.getElem?_drop, cells3] using r0
    · simpa [List.getElem?_take, List.getElem?_drop, cells3] using r1
    · simpa [List.getElem?_take, List.getElem?_drop, cells3] using r2
    · omega
  · obtain ⟨g, t, cs, fuel, p, hg, hty, hvar, hd⟩ := Lib.laidMet.reads h (.tail _ (.head _))
    obtain rfl := Option.some.inj (stops_g.symm.trans hg)
    obtain rfl := Option.some.inj (stops_t.symm.trans hty)
    rw [stops_data] at hd
    have hj33 : j < 33 := by have := (List.getElem?_eq_some_iff.1 hj).1; simpa [stopC, stop_len] using this
    obtain ⟨fuel', d, q, hdi, he⟩ := Lib.array_elem Tryd.underlying39 hd j hj33
    rw [cells_str, Nat.mul_one] at he
    unfold stopC at hj
    rw [List.getElem?_map] at hj hdi
    cases hl : stopL[j]? with
    | none => rw [hl] at hj; cases hj
    | some l =>
      rw [hl] at hj hdi
      injection hj with hj
      injection hdi with hdi
      subst hj
      subst hdi
      obtain ⟨z, hz, hx', _⟩ := DataW.trod_string Tryd.underlying9 he
      have e3 : z.data.toList = l := by injection hx' with h1 h2; injection h1 with h1; injection h1 with h1; exact h1.symm
      rw [str_of e3] at hz
      rw [Nat.zero_add, World.var?_cell hg hvar j, ← Array.getElem?_toList]
      exact at_of_take hz
end Go.Proofs.YtoghdllppecblaaDoor
