/- word's Words: the words as they are gathered sign by sign; a row of words in memory. -/
import Derived.Test.YtoghdllppecblaaDoorQSigns
import Derived.Maps.AppendAt
import Derived.Laws.OwnMore
import Derived.RangeFuncBox
namespace Go.Proofs.YtoghdllppecblaaDoor
open Go.RowKit
set_option linter.unusedVariables false
set_option linter.unusedSimpArgs false

structure Wd where
  text : List UInt8
  a : Nat
  b : Nat
/-- The words so far; within a word?; has it all that it may have? -/
abbrev St := List Wd × Bool × Bool
def lastW (ws : List Wd) : Wd := ws.getLastD ⟨[], 0, 0⟩
def cutB (w : Wd) (g : Sg) (full : Bool) : Bool := full || decide (32 < w.text.length + g.text.length)
def grownW (w : Wd) (g : Sg) (full : Bool) : Wd := ⟨if cutB w g full = true then w.text else w.text ++ g.text, w.a, g.b⟩
def step (s : St) (g : Sg) : St :=
  if g.text = [] then (s.1, false, s.2.2)
  else if s.2.1 = false then (s.1 ++ [⟨g.text, g.a, g.b⟩], true, false)
  else (s.1.dropLast ++ [grownW (lastW s.1) g s.2.2], true, cutB (lastW s.1) g s.2.2)
def runS (t : List UInt8) (pre : List Nat) : St := pre.foldl (fun s p => step s (sgnOf t p)) ([], false, false)
def wordsP (t : List UInt8) : List Wd := (runS t (posL t)).1
theorem runS_snoc (t : List UInt8) (pre : List Nat) (p : Nat) : runS t (pre ++ [p]) = step (runS t pre) (sgnOf t p) := by unfold runS; rw [List.foldl_append]; rfl
def GoodS (s : St) : Prop := (s.2.1 = true → s.1 ≠ []) ∧ ∀ w ∈ s.1, w.text.length ≤ 32
theorem sgn_len (t : List UInt8) (p : Nat) : (sgnOf t p).text.length ≤ 4 := fold_len _
theorem lastW_snoc (ini : List Wd) (w : Wd) : lastW (ini ++ [w]) = w := by simp [lastW]
theorem step_good {s : St} {g : Sg} (h : GoodS s) (hg : g.text.length ≤ 4) : GoodS (step s g) := by
  obtain ⟨ws, ins, full⟩ := s
  obtain ⟨h1, h2⟩ := h
  unfold step
  split
  · exact ⟨fun e => (by cases e), h2⟩
  · split
    · refine ⟨fun _ => by simp, fun w hw => ?_⟩
      rcases List.mem_append.1 hw with hw | hw
      · exact h2 w hw
      · rw [List.mem_singleton.1 hw]; show g.text.length ≤ 32; omega
    · rename_i hi
      have hi' : ins = true := by cases ins <;> simp_all
      have hne := h1 hi'
      refine ⟨fun _ => by simp, fun w hw => ?_⟩
      dsimp only at hw hne
      rcases List.mem_append.1 hw with hw | hw
      · exact h2 w (List.dropLast_subset _ hw)
      · rw [List.mem_singleton.1 hw]
        unfold grownW cutB
        dsimp only
        have hl : (lastW ws).text.length ≤ 32 := h2 _ (by
          unfold lastW
          rw [List.getLastD_eq_getLast?, List.getLast?_eq_some_getLast hne]
          exact List.getLast_mem hne)
        split
        · exact hl
        · rename_i hc
          simp at hc
          rw [List.length_append]
          omega
theorem run_good (t : List UInt8) (pre : List Nat) : GoodS (runS t pre) := by
  unfold runS
  have : ∀ (l : List Nat) (s : St), GoodS s → GoodS (l.foldl (fun s p => step s (sgnOf t p)) s) := by
    intro l
    induction l with
    | nil => intro s h; exact h
    | cons p l ih => intro s h; exact ih _ (step_good h (sgn_len t p))
  exact this pre _ ⟨fun e => (by cases e), fun w hw => (by cases hw)⟩
theorem step_len (s : St) (g : Sg) : (step s g).1.length ≤ s.1.length + 1 := by
  unfold step
  split
  · dsimp only; omega
  · split
    · simp
    · simp
theorem run_len (t : List UInt8) (pre : List Nat) : (runS t pre).1.length ≤ pre.length := by
  unfold runS
  have : ∀ (l : List Nat) (s : St), (l.foldl (fun s p => step s (sgnOf t p)) s).1.length ≤ s.1.length + l.length := by
    intro l
    induction l with
    | nil => intro s; simp
    | cons p l ih =>
      intro s
      have := ih (step s (sgnOf t p))
      have := step_len s (sgnOf t p)
      simp only [List.foldl_cons, List.length_cons]
      omega
  have := this pre ([], false, false)
  simpa using this
/-- A state within a word: the word is the last one. -/
theorem good_split {s : St} (h : GoodS s) (hi : s.2.1 = true) : ∃ ini w, s.1 = ini ++ [w] ∧ w.text.length ≤ 32 := by
  have hne := h.1 hi
  refine ⟨s.1.dropLast, s.1.getLast hne, (List.dropLast_concat_getLast hne).symm, h.2 _ (List.getLast_mem hne)⟩

def wdC (w : Wd) : List Value := [.string (mkB w.text), .int .i64 (w.a : Nat), .int .i64 (w.b : Nat)]
def rowW (ws : List Wd) : List Value := ws.flatMap wdC
theorem rowW_len (ws : List Wd) : (rowW ws).length = ws.length * 3 := by
  unfold rowW
  induction ws with
  | nil => rfl
  | cons w l ih => rw [List.flatMap_cons, List.length_append, ih]; simp [wdC]; omega
theorem rowW_snoc (ini : List Wd) (w : Wd) : rowW (ini ++ [w]) = rowW ini ++ wdC w := by simp [rowW]
theorem rowW_get (ini : List Wd) (w : Wd) (j : Nat) : (rowW (ini ++ [w]))[ini.length * 3 + j]? = (wdC w)[j]? := by
  rw [rowW_snoc, List.getElem?_append_right (by rw [rowW_len]; omega), rowW_len]
  congr 1
  omega
theorem rowW_at (ws : List Wd) (i : Nat) (w : Wd) (h : ws[i]? = some w) (j : Nat) (hj : j < 3) : (rowW ws)[i * 3 + j]? = (wdC w)[j]? := by
  obtain ⟨hi, he⟩ := List.getElem?_eq_some_iff.1 h
  have e : ws = (ws.take i ++ [w]) ++ ws.drop (i + 1) := by
    rw [← List.take_append_drop (i + 1) ws]
    congr 1
    · rw [List.take_append_drop, List.take_add_one, h]; rfl
    · rw [List.take_append_drop]
  have hl : (ws.take i).length = i := by rw [List.length_take]; omega
  have hr : rowW ws = rowW (ws.take i ++ [w]) ++ rowW (ws.drop (i + 1)) := by
    conv => lhs; rw [e]
    unfold rowW
    rw [List.flatMap_append]
  rw [hr, List.getElem?_append_left (by rw [rowW_len]; simp; omega)]
  have := rowW_get (ws.take i) w j
  rw [hl] at this
  exact this
theorem rowW_set (ini : List Wd) (w : Wd) (u : List UInt8) (c : Nat) :
    ((rowW (ini ++ [w])).set (ini.length * 3 + 2) (.int .i64 (c : Nat))).set (ini.length * 3) (.string (mkB u)) = rowW (ini ++ [⟨u, w.a, c⟩]) := by
  rw [rowW_snoc, rowW_snoc]
  rw [List.set_append_right _ _ (by rw [rowW_len]; omega), List.set_append_right _ _ (by rw [rowW_len]; omega), rowW_len]
  have e1 : ini.length * 3 + 2 - ini.length * 3 = 2 := by omega
  have e2 : ini.length * 3 - ini.length * 3 = 0 := by omega
  rw [e1, e2]
  rfl
theorem rowW_set2 (ini : List Wd) (w : Wd) (c : Nat) :
    (rowW (ini ++ [w])).set (ini.length * 3 + 2) (.int .i64 (c : Nat)) = rowW (ini ++ [⟨w.text, w.a, c⟩]) := by
  rw [rowW_snoc, rowW_snoc]
  rw [List.set_append_right _ _ (by rw [rowW_len]; omega), rowW_len]
  have e1 : ini.length * 3 + 2 - ini.length * 3 = 2 := by omega
  rw [e1]
  rfl
theorem wdC_one (w : Wd) : ∀ u ∈ wdC w, u.oneCell' = true := by
  intro u hu
  simp [wdC] at hu
  rcases hu with rfl | rfl | rfl <;> rfl
theorem infoW : (Tryd.prog.info? 33).map (fun i => (i.zero, i.size, i.bytes)) = some (some (.agg #[.string ⟨#[]⟩, .int .i64 0, .int .i64 0]), 3, 32) := by kernel_rfl
/-- Words that the call has gathered, from block base on. -/
def OwnW (W : World) (base : Nat) (v : Value) (ws : List Wd) : Prop := W.ownsRow base 33 3 v ws.length (rowW ws) ∧ (v = .slice none 0 0 ↔ ws = [])
theorem OwnW.split {W : World} {base : Nat} {v : Value} {ini : List Wd} {w : Wd} (h : OwnW W base v (ini ++ [w])) : ∃ g cap, v = .slice (some ⟨g, 0, none⟩) (ini.length + 1) cap ∧ base ≤ g ∧ g < W.heap.size ∧
    (∃ cs, W.heap[g]? = some (.cells cs 33 (0, 0))) ∧ W.cell? ⟨g, ini.length * 3, none⟩ = some (.string (mkB w.text)) ∧ W.cell? ⟨g, ini.length * 3 + 1, none⟩ = some (.int .i64 (w.a : Nat)) ∧ W.cell? ⟨g, ini.length * 3 + 2, none⟩ = some (.int .i64 (w.b : Nat)) := by
  obtain ⟨hr, hn⟩ := h
  have hr0 := hr
  obtain ⟨hl, ⟨hv, h0⟩ | ⟨g, cap, cur, hv, hg, hh, r⟩⟩ := hr
  · simp at h0
  · subst hv
    have hc := fun i hi => World.ownsRow.cellAt (w := W) (base := base) (e := 33) (size := 3) hr0 i hi
    refine ⟨g, cap, by simp, hg, (Array.getElem?_eq_some_iff.1 hh).1, ⟨cur, hh⟩, ?_, ?_, ?_⟩
    · rw [hc _ (by simp <;> omega)]; have := rowW_get ini w 0; rw [Nat.add_zero] at this; rw [this]; rfl
    · rw [hc _ (by simp <;> omega), rowW_get]; rfl
    · rw [hc _ (by simp <;> omega), rowW_get]; rfl
end Go.Proofs.YtoghdllppecblaaDoor
