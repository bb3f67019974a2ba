/- word: its two tables in memory, read whole; one of their rows. -/
import Derived.Test.YtoghdllppecblaaDoorQLeaf
import Derived.Deep.MidRow
namespace Go.Proofs.YtoghdllppecblaaDoor
open Go.RowKit
set_option linter.unusedVariables false
set_option linter.unusedSimpArgs false

theorem ba_eq {a b : ByteArray} : (a.toList == b.toList) = decide (a = b) := by
  by_cases h : a = b
  · simp [h]
  · have : a.toList ≠ b.toList := fun e => h (by
      rw [ByteArray.toList_eq, ByteArray.toList_eq] at e
      obtain ⟨⟨a⟩⟩ := a
      obtain ⟨⟨b⟩⟩ := b
      simp at e
      rw [e])
    simp [h, this]
abbrev Rw := Int × Int × List UInt8
def cells3 (r : Rw) : List Value := [.int .i32 r.1, .int .i32 r.2.1, .string (mkB r.2.2)]
def tabC : List Value := tabL.flatMap cells3
def stopC : List Value := stopL.map fun l => .string (mkB l)
/-- The table of becomings, the stop words lie there. -/
def TabT (w : World) : Prop := w.rangeAt 1 0 tabC
def StopT (w : World) : Prop := w.rangeAt 0 0 stopC
theorem rangeAt_below {w w' : World} {g : Nat} {cs : List Value} (h : w.rangeAt g 0 cs) (hb : Below w.heap.size w w') : w'.rangeAt g 0 cs := by
  intro j v hj
  exact kp' hb (cell_lt' (h j v hj)) (h j v hj)
theorem TabT.below {w w' : World} (h : TabT w) (hb : Below w.heap.size w w') : TabT w' := rangeAt_below h hb
theorem StopT.below {w w' : World} (h : StopT w) (hb : Below w.heap.size w w') : StopT w' := rangeAt_below h hb
theorem tab_load {w : World} (h : TabT w) : (Instr.loadAt 56 (.pointer (some ⟨1, 0, none⟩))).run Tryd.prog w = .ok (.agg tabC.toArray) w :=
  run_loadAt_mid w _ 0 _ tabC _ h Tryd.underlying56 (by kernel_rfl) (by kernel_rfl)
theorem stop_load {w : World} (h : StopT w) : (Instr.loadAt 39 (.pointer (some ⟨0, 0, none⟩))).run Tryd.prog w = .ok (.agg stopC.toArray) w :=
  run_loadAt_mid w _ 0 _ stopC _ h Tryd.underlying39 (by kernel_rfl) (by kernel_rfl)
theorem flat3 : ∀ (l : List Rw) (i : Nat) (x : Rw), l[i]? = some x → ∀ j, j < 3 → (l.flatMap cells3)[i * 3 + j]? = (cells3 x)[j]?
  | [], i, x, h, _, _ => by simp at h
  | y :: t, 0, x, h, j, hj => by
    simp at h
    subst h
    rw [List.flatMap_cons, List.getElem?_append_left (by simp [cells3]; omega)]
    simp
  | y :: t, i + 1, x, h, j, hj => by
    simp at h
    rw [List.flatMap_cons, List.getElem?_append_right (by simp [cells3]; omega)]
    have : (i + 1) * 3 + j - (cells3 y).length = i * 3 + j := by simp [cells3]; omega
    rw [this]
    exact flat3 t i x h j hj
theorem tab_len : tabL.length = 40 := by decide
theorem tab_at {k : Nat} (hk : k < 40) : ∃ r, tabL[k]? = some r := ⟨tabL[k]'(by rw [tab_len]; exact hk), List.getElem?_eq_getElem _⟩
theorem stop_len : stopL.length = 33 := by decide
theorem flat_len : ∀ (l : List Rw), (l.flatMap cells3).length = 3 * l.length
  | [] => rfl
  | y :: t => by rw [List.flatMap_cons, List.length_append, flat_len t]; simp [cells3]; omega
theorem tabC_len : tabC.length = 120 := by unfold tabC; rw [flat_len, tab_len]
theorem isAgg_row {w : World} : (isAgg 51).run Tryd.prog w = .ok true w := by
  unfold isAgg
  rw [Sem.run_bind, run_underlying Tryd.underlying51 w]
  rfl
theorem isAgg_str {w : World} : (isAgg 9).run Tryd.prog w = .ok false w := by
  unfold isAgg
  rw [Sem.run_bind, run_underlying Tryd.underlying9 w]
  rfl
theorem sizeOf_row {w : World} : (sizeOf 51).run Tryd.prog w = .ok 3 w := by
  obtain ⟨i, hi⟩ : ∃ i, Tryd.prog.info? 51 = some i ∧ i.size = 3 := by
    have h : (Tryd.prog.info? 51).map (·.size) = some 3 := by kernel_rfl
    cases hq : Tryd.prog.info? 51 with
    | none => rw [hq] at h; cases h
    | some i => rw [hq] at h; exact ⟨i, rfl, by simpa using h⟩
  simp [sizeOf, typeInfo, hi.1, hi.2]
theorem sizeOf_str {w : World} : (sizeOf 9).run Tryd.prog w = .ok 1 w := by
  obtain ⟨i, hi⟩ : ∃ i, Tryd.prog.info? 9 = some i ∧ i.size = 1 := by
    have h : (Tryd.prog.info? 9).map (·.size) = some 1 := by kernel_rfl
    cases hq : Tryd.prog.info? 9 with
    | none => rw [hq] at h; cases h
    | some i => rw [hq] at h; exact ⟨i, rfl, by simpa using h⟩
  simp [sizeOf, typeInfo, hi.1, hi.2]
theorem tab_extract (k : Nat) (r : Rw) (h : tabL[k]? = some r) : tabC.toArray.extract (k * 3) (k * 3 + 3) = #[.int .i32 r.1, .int .i32 r.2.1, .string (mkB r.2.2)] := by
  have hk : k < 40 := by have := (List.getElem?_eq_some_iff.1 h).1; rw [tab_len] at this; exact this
  have hl := tabC_len
  apply Array.ext_getElem?
  intro j
  rw [Array.getElem?_extract]
  have f := fun j hj => flat3 tabL k r h j hj
  rcases j with _ | _ | _ | j
  · rw [if_pos (by simp; omega)]; simpa [tabC, cells3] using f 0 (by omega)
  · rw [if_pos (by simp; omega)]; simpa [tabC, cells3] using f 1 (by omega)
  · rw [if_pos (by simp; omega)]; simpa [tabC, cells3] using f 2 (by omega)
  · rw [if_neg (by simp; omega)]; simp
theorem tab_index (w : World) (k : Nat) (r : Rw) (h : tabL[k]? = some r) : (Instr.index 56 (.agg tabC.toArray) (.int .i64 (k : Int))).run Tryd.prog w = .ok (.agg #[.int .i32 r.1, .int .i32 r.2.1, .string (mkB r.2.2)]) w := by
  have hk : k < 40 := by have := (List.getElem?_eq_some_iff.1 h).1; rw [tab_len] at this; exact this
  have hr : (0 : Int) ≤ (k : Int) ∧ (k : Int) < 40 := ⟨by omega, by omega⟩
  simp only [Instr.index, asIntOf, Sem.run_bind, Sem.run_pure, Result.andThen_ok, run_underlying Tryd.underlying56]
  rw [if_pos (by exact_mod_cast hr)]
  simp only [Sem.run_bind, sizeOf_row, Result.andThen_ok, part, isAgg_row, if_true, Sem.run_pure, Int.toNat_natCast]
  rw [tab_extract k r h]
theorem stop_index (w : World) (k : Nat) (l : List UInt8) (h : stopL[k]? = some l) : (Instr.index 39 (.agg stopC.toArray) (.int .i64 (k : Int))).run Tryd.prog w = .ok (.string (mkB l)) w := by
  have hk : k < 33 := by have := (List.getElem?_eq_some_iff.1 h).1; rw [stop_len] at this; exact this
  have hr : (0 : Int) ≤ (k : Int) ∧ (k : Int) < 33 := ⟨by omega, by omega⟩
  simp only [Instr.index, asIntOf, Sem.run_bind, Sem.run_pure, Result.andThen_ok, run_underlying Tryd.underlying39]
  rw [if_pos (by exact_mod_cast hr)]
  simp only [Sem.run_bind, sizeOf_str, Result.andThen_ok, part, isAgg_str, Bool.false_eq_true, if_false, Sem.run_pure, Int.toNat_natCast, Nat.mul_one]
  have : stopC.toArray[k]? = some (.string (mkB l)) := by simp [stopC, h]
  rw [this]
  rfl
theorem opIn_load {F : Fence} {n : Nat} {P : Program} {o : Oper} {a : Act} {w : World} {K : Act → World → Prop} {Q : Exit → Act → World → Prop} (ty : TypeId) (x : Operand) (ho : o.op = .load ty x) (v : Value)
    (h : (Instr.loadAt ty (a.eval x)).run P w = .ok v w) (hK : K (a.put o.dst v) w) : Oper.wpIn F n P o a w K Q := by
  refine ⟨fun f hf => by simp [Oper.about, ho] at hf, ?_⟩
  have e : o.semAt F.round a.eval = execOp a.eval o := by unfold Oper.semAt; rw [ho]; cases F.round <;> rfl
  have : (o.semAt F.round a.eval).run P w = .ok (.value v) w := by
    rw [e]
    unfold execOp
    simp only [ho, Sem.run_bind, Sem.run_pure, Result.andThen_ok, h]
  rw [this]
  exact hK
theorem opIn_index {F : Fence} {n : Nat} {P : Program} {o : Oper} {a : Act} {w : World} {K : Act → World → Prop} {Q : Exit → Act → World → Prop} (ty : TypeId) (x i : Operand) (ho : o.op = .index ty x i) (v : Value)
    (h : (Instr.index ty (a.eval x) (a.eval i)).run P w = .ok v w) (hK : K (a.put o.dst v) w) : Oper.wpIn F n P o a w K Q := by
  refine ⟨fun f hf => by simp [Oper.about, ho] at hf, ?_⟩
  have e : o.semAt F.round a.eval = execOp a.eval o := by unfold Oper.semAt; rw [ho]; cases F.round <;> rfl
  have : (o.semAt F.round a.eval).run P w = .ok (.value v) w := by
    rw [e]
    unfold execOp
    simp only [ho, Sem.run_bind, Sem.run_pure, Result.andThen_ok, h]
  rw [this]
  exact hK
end Go.Proofs.YtoghdllppecblaaDoor
