/- geom's rects: the walks. -/
import Derived.Test.YtihigingddaopaaDoorGTurn
namespace Go.Proofs.YtihigingddaopaaDoor
open Go.RowKit
set_option linter.unusedVariables false


theorem ret_v {a b : Value} (h : a = b) : Ending.returned a = .returned b := by rw [h]
def F4r (r : Rc) : Nat → Pt | 0 => ⟨r.x0, r.y0⟩ | 1 => ⟨r.x1, r.y0⟩ | 2 => ⟨r.x1, r.y1⟩ | _ => ⟨r.x0, r.y1⟩
def F2r (r : Rc) : Nat → Pt | 0 => ⟨r.x0, r.y0⟩ | _ => ⟨r.x1, r.y1⟩
theorem pts4r (W : World) (r : Rc) : Pts (W.alloc (.cells #[.int .i64 r.x0, .int .i64 r.y0, .int .i64 r.x1, .int .i64 r.y0, .int .i64 r.x1, .int .i64 r.y1, .int .i64 r.x0, .int .i64 r.y1] 55)) (some ⟨W.heap.size, 0, none⟩) 4 (F4r r) :=
  ⟨by omega, fun _ => ⟨W.heap.size, 0, rfl, fun i hi => by
    rcases i with _ | _ | _ | _ | i
    · constructor <;> simp [F4r]
    · constructor <;> simp [F4r]
    · constructor <;> simp [F4r]
    · constructor <;> simp [F4r]
    · omega⟩⟩
theorem pts2r (W : World) (r : Rc) : Pts (W.alloc (.cells #[.int .i64 r.x0, .int .i64 r.y0, .int .i64 r.x1, .int .i64 r.y1] 54)) (some ⟨W.heap.size, 0, none⟩) 2 (F2r r) :=
  ⟨by omega, fun _ => ⟨W.heap.size, 0, rfl, fun i hi => by
    rcases i with _ | _ | i
    · constructor <;> simp [F2r]
    · constructor <;> simp [F2r]
    · omega⟩⟩
theorem mayR_yes {r : Rc} (h : MayP ⟨r.x0, r.y0⟩ ∧ MayP ⟨r.x1, r.y1⟩) (h1 : r.x0 ≤ r.x1) (h2 : r.y0 ≤ r.y1) : mayRB r = true := decide_eq_true ⟨h.1, h.2, h1, h2⟩
theorem mayR_no {r : Rc} (h : ¬ MayR r) : mayRB r = false := decide_eq_false h
theorem f4r_yes {r : Rc} (h : allB (F4r r) 4 = true) : MayP ⟨r.x0, r.y0⟩ ∧ MayP ⟨r.x1, r.y1⟩ := by
  have k := (allB_iff _ _).1 h
  exact ⟨k 0 (by omega), k 2 (by omega)⟩
theorem f4r_no {r : Rc} (h : allB (F4r r) 4 = false) : mayRB r = false := by
  refine mayR_no fun hr => ?_
  have : allB (F4r r) 4 = true := (allB_iff _ _).2 fun i hi => by
    obtain ⟨a, b, _, _⟩ := hr
    unfold MayP at *
    rcases i with _ | _ | _ | _ | i <;> first | omega | (simp only [F4r]; omega) | skip
    all_goals (simp only [F4r] at *; omega)
  rw [h] at this; cases this
theorem f2r_yes {r : Rc} (h : allB (F2r r) 2 = true) : MayP ⟨r.x0, r.y0⟩ ∧ MayP ⟨r.x1, r.y1⟩ := by
  have k := (allB_iff _ _).1 h
  exact ⟨k 0 (by omega), k 1 (by omega)⟩
theorem f2r_no {r : Rc} (h : allB (F2r r) 2 = false) : mayRB r = false := by
  refine mayR_no fun hr => ?_
  have : allB (F2r r) 2 = true := (allB_iff _ _).2 fun i hi => by
    rcases i with _ | _ | i
    · exact hr.1
    · exact hr.2.1
    · omega
  rw [h] at this; cases this
set_option maxRecDepth 100000 in
set_option maxHeartbeats 4000000 in
theorem mayRect_any (r : Rc) (w : World) : Calls Tryd.prog 7 #[.agg #[.int .i64 r.x0, .int .i64 r.y0, .int .i64 r.x1, .int .i64 r.y1]] w fun e w' => e = .returned (.bool (mayRB r)) ∧ Below w.heap.size w w' := by
  have hp := pts4r (w.alloc (.cells #[.int .i64 r.x0, .int .i64 r.y0, .int .i64 r.x1, .int .i64 r.y1] 23)) r
  rw [World.size_alloc] at hp
  have k := all_any _ 4 4 _ _ hp
  clear hp
  cases hb : allB (F4r r) 4
  · have HE := Lib.hid (f4r_no hb)
    rw [hb] at k
    have K1 := Lib.hid k
    clear k hb
    go_enter Tryd.func7, Tryd.ntmps7
    go_wp2_with fail
    (with_reducible refine (K1.out).mono ?_); rintro _ w1 ⟨rfl, l1⟩
    have L1 := Lib.hid ((((Below.refl w.heap.size w).alloc (Nat.le_refl _) _).alloc (by simp) _).trans (l1.mono (by simp; omega)))
    clear l1
    go_wp2
    go_ret
    exact ⟨ret_b HE.out.symm, L1.out⟩
  · have HE := Lib.hid (f4r_yes hb)
    rw [hb] at k
    have K1 := Lib.hid k
    clear k hb
    by_cases h1 : r.x0 ≤ r.x1
    · by_cases h2 : r.y0 ≤ r.y1
      · have HR := Lib.hid (mayR_yes HE.out h1 h2)
        go_enter Tryd.func7, Tryd.ntmps7
        go_wp2_with fail
        (with_reducible refine (K1.out).mono ?_); rintro _ w1 ⟨rfl, l1⟩
        have L1 := Lib.hid ((((Below.refl w.heap.size w).alloc (Nat.le_refl _) _).alloc (by simp) _).trans (l1.mono (by simp; omega)))
        obtain ⟨hc, hf⟩ := bcell l1
        have p0 : w1.cell? ⟨w.heap.size, 0, none⟩ = some (.int .i64 r.x0) := by go_simp
        have p1 : w1.cell? ⟨w.heap.size, 1, none⟩ = some (.int .i64 r.y0) := by go_simp
        have p2 : w1.cell? ⟨w.heap.size, 2, none⟩ = some (.int .i64 r.x1) := by go_simp
        have p3 : w1.cell? ⟨w.heap.size, 3, none⟩ = some (.int .i64 r.y1) := by go_simp
        clear l1 hc hf
        go_wp2
        go_ret
        exact ⟨ret_b (by first | exact HR.out.symm | (rw [HR.out]; simp; omega)), L1.out⟩
      · have HR := Lib.hid (mayR_no (r := r) fun h => h2 h.2.2.2)
        go_enter Tryd.func7, Tryd.ntmps7
        go_wp2_with fail
        (with_reducible refine (K1.out).mono ?_); rintro _ w1 ⟨rfl, l1⟩
        have L1 := Lib.hid ((((Below.refl w.heap.size w).alloc (Nat.le_refl _) _).alloc (by simp) _).trans (l1.mono (by simp; omega)))
        obtain ⟨hc, hf⟩ := bcell l1
        have p0 : w1.cell? ⟨w.heap.size, 0, none⟩ = some (.int .i64 r.x0) := by go_simp
        have p1 : w1.cell? ⟨w.heap.size, 1, none⟩ = some (.int .i64 r.y0) := by go_simp
        have p2 : w1.cell? ⟨w.heap.size, 2, none⟩ = some (.int .i64 r.x1) := by go_simp
        have p3 : w1.cell? ⟨w.heap.size, 3, none⟩ = some (.int .i64 r.y1) := by go_simp
        clear l1 hc hf
        go_wp2
        go_ret
        exact ⟨ret_b (by first | exact HR.out.symm | (rw [HR.out]; simp; omega)), L1.out⟩
    · have HR := Lib.hid (mayR_no (r := r) fun h => h1 h.2.2.1)
      go_enter Tryd.func7, Tryd.ntmps7
      go_wp2_with fail
      (with_reducible refine (K1.out).mono ?_); rintro _ w1 ⟨rfl, l1⟩
      have L1 := Lib.hid ((((Below.refl w.heap.size w).alloc (Nat.le_refl _) _).alloc (by simp) _).trans (l1.mono (by simp; omega)))
      obtain ⟨hc, hf⟩ := bcell l1
      have p0 : w1.cell? ⟨w.heap.size, 0, none⟩ = some (.int .i64 r.x0) := by go_simp
      have p1 : w1.cell? ⟨w.heap.size, 1, none⟩ = some (.int .i64 r.y0) := by go_simp
      have p2 : w1.cell? ⟨w.heap.size, 2, none⟩ = some (.int .i64 r.x1) := by go_simp
      have p3 : w1.cell? ⟨w.heap.size, 3, none⟩ = some (.int .i64 r.y1) := by go_simp
      clear l1 hc hf
      go_wp2
      go_ret
      exact ⟨ret_b (by first | exact HR.out.symm | (rw [HR.out]; simp; omega)), L1.out⟩
set_option maxRecDepth 100000 in
set_option maxHeartbeats 4000000 in
theorem refMayRect_any (r : Rc) (w : World) : Calls Tryd.prog 15 #[.agg #[.int .i64 r.x0, .int .i64 r.y0, .int .i64 r.x1, .int .i64 r.y1]] w fun e w' => e = .returned (.bool (mayRB r)) ∧ Below w.heap.size w w' := by
  have hp := pts2r (w.alloc (.cells #[.int .i64 r.x0, .int .i64 r.y0, .int .i64 r.x1, .int .i64 r.y1] 23)) r
  rw [World.size_alloc] at hp
  have k := refAll_any _ 2 2 _ _ hp
  clear hp
  cases hb : allB (F2r r) 2
  · have HE := Lib.hid (f2r_no hb)
    rw [hb] at k
    have K1 := Lib.hid k
    clear k hb
    go_enter Tryd.func15, Tryd.ntmps15
    go_wp2_with fail
    (with_reducible refine (K1.out).mono ?_); rintro _ w1 ⟨rfl, l1⟩
    have L1 := Lib.hid ((((Below.refl w.heap.size w).alloc (Nat.le_refl _) _).alloc (by simp) _).trans (l1.mono (by simp; omega)))
    clear l1
    go_wp2
    go_ret
    exact ⟨ret_b HE.out.symm, L1.out⟩
  · have HE := Lib.hid (f2r_yes hb)
    rw [hb] at k
    have K1 := Lib.hid k
    clear k hb
    by_cases h1 : r.x0 ≤ r.x1
    · by_cases h2 : r.y0 ≤ r.y1
      · have HR := Lib.hid (mayR_yes HE.out h1 h2)
        go_enter Tryd.func15, Tryd.ntmps15
        go_wp2_with fail
        (with_reducible refine (K1.out).mono ?_); rintro _ w1 ⟨rfl, l1⟩
        have L1 := Lib.hid ((((Below.refl w.heap.size w).alloc (Nat.le_refl _) _).alloc (by simp) _).trans (l1.mono (by simp; omega)))
        obtain ⟨hc, hf⟩ := bcell l1
        have p0 : w1.cell? ⟨w.heap.size, 0, none⟩ = some (.int .i64 r.x0) := by go_simp
        have p1 : w1.cell? ⟨w.heap.size, 1, none⟩ = some (.int .i64 r.y0) := by go_simp
        have p2 : w1.cell? ⟨w.heap.size, 2, none⟩ = some (.int .i64 r.x1) := by go_simp
        have p3 : w1.cell? ⟨w.heap.size, 3, none⟩ = some (.int .i64 r.y1) := by go_simp
        clear l1 hc hf
        go_wp2
        go_ret
        exact ⟨ret_b (by first | exact HR.out.symm | (rw [HR.out]; simp; omega)), L1.out⟩
      · have HR := Lib.hid (mayR_no (r := r) fun h => h2 h.2.2.2)
        go_enter Tryd.func15, Tryd.ntmps15
        go_wp2_with fail
        (with_reducible refine (K1.out).mono ?_); rintro _ w1 ⟨rfl, l1⟩
        have L1 := Lib.hid ((((Below.refl w.heap.size w).alloc (Nat.le_refl _) _).alloc (by simp) _).trans (l1.mono (by simp; omega)))
        obtain ⟨hc, hf⟩ := bcell l1
        have p0 : w1.cell? ⟨w.heap.size, 0, none⟩ = some (.int .i64 r.x0) := by go_simp
        have p1 : w1.cell? ⟨w.heap.size, 1, none⟩ = some (.int .i64 r.y0) := by go_simp
        have p2 : w1.cell? ⟨w.heap.size, 2, none⟩ = some (.int .i64 r.x1) := by go_simp
        have p3 : w1.cell? ⟨w.heap.size, 3, none⟩ = some (.int .i64 r.y1) := by go_simp
        clear l1 hc hf
        go_wp2
        go_ret
        exact ⟨ret_b (by first | exact HR.out.symm | (rw [HR.out]; simp; omega)), L1.out⟩
    · have HR := Lib.hid (mayR_no (r := r) fun h => h1 h.2.2.1)
      go_enter Tryd.func15, Tryd.ntmps15
      go_wp2_with fail
      (with_reducible refine (K1.out).mono ?_); rintro _ w1 ⟨rfl, l1⟩
      have L1 := Lib.hid ((((Below.refl w.heap.size w).alloc (Nat.le_refl _) _).alloc (by simp) _).trans (l1.mono (by simp; omega)))
      obtain ⟨hc, hf⟩ := bcell l1
      have p0 : w1.cell? ⟨w.heap.size, 0, none⟩ = some (.int .i64 r.x0) := by go_simp
      have p1 : w1.cell? ⟨w.heap.size, 1, none⟩ = some (.int .i64 r.y0) := by go_simp
      have p2 : w1.cell? ⟨w.heap.size, 2, none⟩ = some (.int .i64 r.x1) := by go_simp
      have p3 : w1.cell? ⟨w.heap.size, 3, none⟩ = some (.int .i64 r.y1) := by go_simp
      clear l1 hc hf
      go_wp2
      go_ret
      exact ⟨ret_b (by first | exact HR.out.symm | (rw [HR.out]; simp; omega)), L1.out⟩
end Go.Proofs.YtihigingddaopaaDoor
