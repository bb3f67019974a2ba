/- geom's Cross, the document's Cross: the walks. -/
import Derived.Test.YtehmdokcdnlcdaaGOn
import Derived.Deep.DeepCutAuto
import Derived.Deep.CutRange
import Derived.Deep.MidRow
namespace Go.Proofs.Ytehmdokcdnlcdaa
open Go.RowKit
set_option linter.unusedVariables false


theorem s8_start (w : World) (a b c d : Pt) : Below w.heap.size w ((((w.alloc (.cells #[.int .i64 a.x, .int .i64 a.y] 23)).alloc (.cells #[.int .i64 b.x, .int .i64 b.y] 23)).alloc (.cells #[.int .i64 c.x, .int .i64 c.y] 23)).alloc (.cells #[.int .i64 d.x, .int .i64 d.y] 23)) ∧ ((((w.alloc (.cells #[.int .i64 a.x, .int .i64 a.y] 23)).alloc (.cells #[.int .i64 b.x, .int .i64 b.y] 23)).alloc (.cells #[.int .i64 c.x, .int .i64 c.y] 23)).alloc (.cells #[.int .i64 d.x, .int .i64 d.y] 23)).cell? ⟨w.heap.size, 0, none⟩ = some (.int .i64 a.x) ∧ ((((w.alloc (.cells #[.int .i64 a.x, .int .i64 a.y] 23)).alloc (.cells #[.int .i64 b.x, .int .i64 b.y] 23)).alloc (.cells #[.int .i64 c.x, .int .i64 c.y] 23)).alloc (.cells #[.int .i64 d.x, .int .i64 d.y] 23)).cell? ⟨w.heap.size, 1, none⟩ = some (.int .i64 a.y) ∧ ((((w.alloc (.cells #[.int .i64 a.x, .int .i64 a.y] 23)).alloc (.cells #[.int .i64 b.x, .int .i64 b.y] 23)).alloc (.cells #[.int .i64 c.x, .int .i64 c.y] 23)).alloc (.cells #[.int .i64 d.x, .int .i64 d.y] 23)).cell? ⟨w.heap.size + 1, 0, none⟩ = some (.int .i64 b.x) ∧ ((((w.alloc (.cells #[.int .i64 a.x, .int .i64 a.y] 23)).alloc (.cells #[.int .i64 b.x, .int .i64 b.y] 23)).alloc (.cells #[.int .i64 c.x, .int .i64 c.y] 23)).alloc (.cells #[.int .i64 d.x, .int .i64 d.y] 23)).cell? ⟨w.heap.size + 1, 1, none⟩ = some (.int .i64 b.y) ∧ ((((w.alloc (.cells #[.int .i64 a.x, .int .i64 a.y] 23)).alloc (.cells #[.int .i64 b.x, .int .i64 b.y] 23)).alloc (.cells #[.int .i64 c.x, .int .i64 c.y] 23)).alloc (.cells #[.int .i64 d.x, .int .i64 d.y] 23)).cell? ⟨w.heap.size + 1 + 1, 0, none⟩ = some (.int .i64 c.x) ∧ ((((w.alloc (.cells #[.int .i64 a.x, .int .i64 a.y] 23)).alloc (.cells #[.int .i64 b.x, .int .i64 b.y] 23)).alloc (.cells #[.int .i64 c.x, .int .i64 c.y] 23)).alloc (.cells #[.int .i64 d.x, .int .i64 d.y] 23)).cell? ⟨w.heap.size + 1 + 1, 1, none⟩ = some (.int .i64 c.y) ∧ ((((w.alloc (.cells #[.int .i64 a.x, .int .i64 a.y] 23)).alloc (.cells #[.int .i64 b.x, .int .i64 b.y] 23)).alloc (.cells #[.int .i64 c.x, .int .i64 c.y] 23)).alloc (.cells #[.int .i64 d.x, .int .i64 d.y] 23)).cell? ⟨w.heap.size + 1 + 1 + 1, 0, none⟩ = some (.int .i64 d.x) ∧ ((((w.alloc (.cells #[.int .i64 a.x, .int .i64 a.y] 23)).alloc (.cells #[.int .i64 b.x, .int .i64 b.y] 23)).alloc (.cells #[.int .i64 c.x, .int .i64 c.y] 23)).alloc (.cells #[.int .i64 d.x, .int .i64 d.y] 23)).cell? ⟨w.heap.size + 1 + 1 + 1, 1, none⟩ = some (.int .i64 d.y) := by
  refine ⟨((((Below.refl _ _).alloc (Nat.le_refl _) _).alloc (by simp) _).alloc (by simp; omega) _).alloc (by simp; omega) _, ?_, ?_, ?_, ?_, ?_, ?_, ?_, ?_⟩ <;> go_simp
theorem s8_keep {w W W' : World} {a b c d : Pt} (l : Below W.heap.size W W') (h : Below w.heap.size w W ∧ W.cell? ⟨w.heap.size, 0, none⟩ = some (.int .i64 a.x) ∧ W.cell? ⟨w.heap.size, 1, none⟩ = some (.int .i64 a.y) ∧ W.cell? ⟨w.heap.size + 1, 0, none⟩ = some (.int .i64 b.x) ∧ W.cell? ⟨w.heap.size + 1, 1, none⟩ = some (.int .i64 b.y) ∧ W.cell? ⟨w.heap.size + 1 + 1, 0, none⟩ = some (.int .i64 c.x) ∧ W.cell? ⟨w.heap.size + 1 + 1, 1, none⟩ = some (.int .i64 c.y) ∧ W.cell? ⟨w.heap.size + 1 + 1 + 1, 0, none⟩ = some (.int .i64 d.x) ∧ W.cell? ⟨w.heap.size + 1 + 1 + 1, 1, none⟩ = some (.int .i64 d.y)) : Below w.heap.size w W' ∧ W'.cell? ⟨w.heap.size, 0, none⟩ = some (.int .i64 a.x) ∧ W'.cell? ⟨w.heap.size, 1, none⟩ = some (.int .i64 a.y) ∧ W'.cell? ⟨w.heap.size + 1, 0, none⟩ = some (.int .i64 b.x) ∧ W'.cell? ⟨w.heap.size + 1, 1, none⟩ = some (.int .i64 b.y) ∧ W'.cell? ⟨w.heap.size + 1 + 1, 0, none⟩ = some (.int .i64 c.x) ∧ W'.cell? ⟨w.heap.size + 1 + 1, 1, none⟩ = some (.int .i64 c.y) ∧ W'.cell? ⟨w.heap.size + 1 + 1 + 1, 0, none⟩ = some (.int .i64 d.x) ∧ W'.cell? ⟨w.heap.size + 1 + 1 + 1, 1, none⟩ = some (.int .i64 d.y) :=
  ⟨below2' h.1 l, kp' l (cell_lt' h.2.1) h.2.1, kp' l (cell_lt' h.2.2.1) h.2.2.1, kp' l (cell_lt' h.2.2.2.1) h.2.2.2.1, kp' l (cell_lt' h.2.2.2.2.1) h.2.2.2.2.1, kp' l (cell_lt' h.2.2.2.2.2.1) h.2.2.2.2.2.1, kp' l (cell_lt' h.2.2.2.2.2.2.1) h.2.2.2.2.2.2.1, kp' l (cell_lt' h.2.2.2.2.2.2.2.1) h.2.2.2.2.2.2.2.1, kp' l (cell_lt' h.2.2.2.2.2.2.2.2) h.2.2.2.2.2.2.2.2⟩
theorem s8_alloc {w W : World} {a b c d : Pt} (o : Obj) (h : Below w.heap.size w W ∧ W.cell? ⟨w.heap.size, 0, none⟩ = some (.int .i64 a.x) ∧ W.cell? ⟨w.heap.size, 1, none⟩ = some (.int .i64 a.y) ∧ W.cell? ⟨w.heap.size + 1, 0, none⟩ = some (.int .i64 b.x) ∧ W.cell? ⟨w.heap.size + 1, 1, none⟩ = some (.int .i64 b.y) ∧ W.cell? ⟨w.heap.size + 1 + 1, 0, none⟩ = some (.int .i64 c.x) ∧ W.cell? ⟨w.heap.size + 1 + 1, 1, none⟩ = some (.int .i64 c.y) ∧ W.cell? ⟨w.heap.size + 1 + 1 + 1, 0, none⟩ = some (.int .i64 d.x) ∧ W.cell? ⟨w.heap.size + 1 + 1 + 1, 1, none⟩ = some (.int .i64 d.y)) : Below w.heap.size w (W.alloc o) ∧ (W.alloc o).cell? ⟨w.heap.size, 0, none⟩ = some (.int .i64 a.x) ∧ (W.alloc o).cell? ⟨w.heap.size, 1, none⟩ = some (.int .i64 a.y) ∧ (W.alloc o).cell? ⟨w.heap.size + 1, 0, none⟩ = some (.int .i64 b.x) ∧ (W.alloc o).cell? ⟨w.heap.size + 1, 1, none⟩ = some (.int .i64 b.y) ∧ (W.alloc o).cell? ⟨w.heap.size + 1 + 1, 0, none⟩ = some (.int .i64 c.x) ∧ (W.alloc o).cell? ⟨w.heap.size + 1 + 1, 1, none⟩ = some (.int .i64 c.y) ∧ (W.alloc o).cell? ⟨w.heap.size + 1 + 1 + 1, 0, none⟩ = some (.int .i64 d.x) ∧ (W.alloc o).cell? ⟨w.heap.size + 1 + 1 + 1, 1, none⟩ = some (.int .i64 d.y) := s8_keep ((Below.refl _ _).alloc (Nat.le_refl _) _) h
theorem s8_drew {w W : World} {a b c d : Pt} (h : Below w.heap.size w W ∧ W.cell? ⟨w.heap.size, 0, none⟩ = some (.int .i64 a.x) ∧ W.cell? ⟨w.heap.size, 1, none⟩ = some (.int .i64 a.y) ∧ W.cell? ⟨w.heap.size + 1, 0, none⟩ = some (.int .i64 b.x) ∧ W.cell? ⟨w.heap.size + 1, 1, none⟩ = some (.int .i64 b.y) ∧ W.cell? ⟨w.heap.size + 1 + 1, 0, none⟩ = some (.int .i64 c.x) ∧ W.cell? ⟨w.heap.size + 1 + 1, 1, none⟩ = some (.int .i64 c.y) ∧ W.cell? ⟨w.heap.size + 1 + 1 + 1, 0, none⟩ = some (.int .i64 d.x) ∧ W.cell? ⟨w.heap.size + 1 + 1 + 1, 1, none⟩ = some (.int .i64 d.y)) : Below w.heap.size w W.drew ∧ W.drew.cell? ⟨w.heap.size, 0, none⟩ = some (.int .i64 a.x) ∧ W.drew.cell? ⟨w.heap.size, 1, none⟩ = some (.int .i64 a.y) ∧ W.drew.cell? ⟨w.heap.size + 1, 0, none⟩ = some (.int .i64 b.x) ∧ W.drew.cell? ⟨w.heap.size + 1, 1, none⟩ = some (.int .i64 b.y) ∧ W.drew.cell? ⟨w.heap.size + 1 + 1, 0, none⟩ = some (.int .i64 c.x) ∧ W.drew.cell? ⟨w.heap.size + 1 + 1, 1, none⟩ = some (.int .i64 c.y) ∧ W.drew.cell? ⟨w.heap.size + 1 + 1 + 1, 0, none⟩ = some (.int .i64 d.x) ∧ W.drew.cell? ⟨w.heap.size + 1 + 1 + 1, 1, none⟩ = some (.int .i64 d.y) := s8_keep (Below.refl _ _).drew h
theorem put4_far {W : World} {b b2 o : Nat} {t1 t2 t3 t4 : Int} (hb : b2 ≠ b) {v : Value} (h : W.cell? ⟨b2, o, none⟩ = some v) : ((((W.setCell ⟨b, 0, none⟩ (.int .i64 t1)).setCell ⟨b, 1, none⟩ (.int .i64 t2)).setCell ⟨b, 2, none⟩ (.int .i64 t3)).setCell ⟨b, 3, none⟩ (.int .i64 t4)).cell? ⟨b2, o, none⟩ = some v := by
  have k : ∀ (V : World) (i : Nat) (u : Value), (V.setCell ⟨b, i, none⟩ u).cell? ⟨b2, o, none⟩ = V.cell? ⟨b2, o, none⟩ := fun V i u => World.cell?_setCell_far V _ _ u (Ne.symm hb)
  rw [k, k, k, k, h]
theorem s8_put {w W : World} {a b c d : Pt} {g : Nat} {t1 t2 t3 t4 : Int} (h : Below w.heap.size w W ∧ W.cell? ⟨w.heap.size, 0, none⟩ = some (.int .i64 a.x) ∧ W.cell? ⟨w.heap.size, 1, none⟩ = some (.int .i64 a.y) ∧ W.cell? ⟨w.heap.size + 1, 0, none⟩ = some (.int .i64 b.x) ∧ W.cell? ⟨w.heap.size + 1, 1, none⟩ = some (.int .i64 b.y) ∧ W.cell? ⟨w.heap.size + 1 + 1, 0, none⟩ = some (.int .i64 c.x) ∧ W.cell? ⟨w.heap.size + 1 + 1, 1, none⟩ = some (.int .i64 c.y) ∧ W.cell? ⟨w.heap.size + 1 + 1 + 1, 0, none⟩ = some (.int .i64 d.x) ∧ W.cell? ⟨w.heap.size + 1 + 1 + 1, 1, none⟩ = some (.int .i64 d.y)) (hb : w.heap.size + 1 + 1 + 1 < g) : Below w.heap.size w ((((W.setCell ⟨g, 0, none⟩ (.int .i64 t1)).setCell ⟨g, 1, none⟩ (.int .i64 t2)).setCell ⟨g, 2, none⟩ (.int .i64 t3)).setCell ⟨g, 3, none⟩ (.int .i64 t4)) ∧ ((((W.setCell ⟨g, 0, none⟩ (.int .i64 t1)).setCell ⟨g, 1, none⟩ (.int .i64 t2)).setCell ⟨g, 2, none⟩ (.int .i64 t3)).setCell ⟨g, 3, none⟩ (.int .i64 t4)).cell? ⟨w.heap.size, 0, none⟩ = some (.int .i64 a.x) ∧ ((((W.setCell ⟨g, 0, none⟩ (.int .i64 t1)).setCell ⟨g, 1, none⟩ (.int .i64 t2)).setCell ⟨g, 2, none⟩ (.int .i64 t3)).setCell ⟨g, 3, none⟩ (.int .i64 t4)).cell? ⟨w.heap.size, 1, none⟩ = some (.int .i64 a.y) ∧ ((((W.setCell ⟨g, 0, none⟩ (.int .i64 t1)).setCell ⟨g, 1, none⟩ (.int .i64 t2)).setCell ⟨g, 2, none⟩ (.int .i64 t3)).setCell ⟨g, 3, none⟩ (.int .i64 t4)).cell? ⟨w.heap.size + 1, 0, none⟩ = some (.int .i64 b.x) ∧ ((((W.setCell ⟨g, 0, none⟩ (.int .i64 t1)).setCell ⟨g, 1, none⟩ (.int .i64 t2)).setCell ⟨g, 2, none⟩ (.int .i64 t3)).setCell ⟨g, 3, none⟩ (.int .i64 t4)).cell? ⟨w.heap.size + 1, 1, none⟩ = some (.int .i64 b.y) ∧ ((((W.setCell ⟨g, 0, none⟩ (.int .i64 t1)).setCell ⟨g, 1, none⟩ (.int .i64 t2)).setCell ⟨g, 2, none⟩ (.int .i64 t3)).setCell ⟨g, 3, none⟩ (.int .i64 t4)).cell? ⟨w.heap.size + 1 + 1, 0, none⟩ = some (.int .i64 c.x) ∧ ((((W.setCell ⟨g, 0, none⟩ (.int .i64 t1)).setCell ⟨g, 1, none⟩ (.int .i64 t2)).setCell ⟨g, 2, none⟩ (.int .i64 t3)).setCell ⟨g, 3, none⟩ (.int .i64 t4)).cell? ⟨w.heap.size + 1 + 1, 1, none⟩ = some (.int .i64 c.y) ∧ ((((W.setCell ⟨g, 0, none⟩ (.int .i64 t1)).setCell ⟨g, 1, none⟩ (.int .i64 t2)).setCell ⟨g, 2, none⟩ (.int .i64 t3)).setCell ⟨g, 3, none⟩ (.int .i64 t4)).cell? ⟨w.heap.size + 1 + 1 + 1, 0, none⟩ = some (.int .i64 d.x) ∧ ((((W.setCell ⟨g, 0, none⟩ (.int .i64 t1)).setCell ⟨g, 1, none⟩ (.int .i64 t2)).setCell ⟨g, 2, none⟩ (.int .i64 t3)).setCell ⟨g, 3, none⟩ (.int .i64 t4)).cell? ⟨w.heap.size + 1 + 1 + 1, 1, none⟩ = some (.int .i64 d.y) :=
  ⟨(((h.1.setCell (p := ⟨g, 0, none⟩) (show w.heap.size ≤ g by omega) _).setCell (p := ⟨g, 1, none⟩) (show w.heap.size ≤ g by omega) _).setCell (p := ⟨g, 2, none⟩) (show w.heap.size ≤ g by omega) _).setCell (p := ⟨g, 3, none⟩) (show w.heap.size ≤ g by omega) _,
   put4_far (by omega) h.2.1, put4_far (by omega) h.2.2.1, put4_far (by omega) h.2.2.2.1, put4_far (by omega) h.2.2.2.2.1, put4_far (by omega) h.2.2.2.2.2.1, put4_far (by omega) h.2.2.2.2.2.2.1, put4_far (by omega) h.2.2.2.2.2.2.2.1, put4_far (by omega) h.2.2.2.2.2.2.2.2⟩
def Z4 (W : World) (b : Nat) : Prop := b < W.heap.size ∧ (b ≠ W.heap.size ∧ W.heap.size ≠ b) ∧ (W.cell? ⟨b, 0, none⟩ = some (.int .i64 0) ∧ W.cell? ⟨b, 1, none⟩ = some (.int .i64 0) ∧ W.cell? ⟨b, 2, none⟩ = some (.int .i64 0) ∧ W.cell? ⟨b, 3, none⟩ = some (.int .i64 0)) ∧ W.frozen? ⟨b, 0, none⟩ = false ∧ W.frozen? ⟨b, 1, none⟩ = false ∧ W.frozen? ⟨b, 2, none⟩ = false ∧ W.frozen? ⟨b, 3, none⟩ = false
theorem z4_new {W w' : World} (l : Below (W.alloc (.cells #[.int .i64 0, .int .i64 0, .int .i64 0, .int .i64 0] 59)).heap.size (W.alloc (.cells #[.int .i64 0, .int .i64 0, .int .i64 0, .int .i64 0] 59)) w') : Z4 w' W.heap.size := by
  have hl : W.heap.size < w'.heap.size := by have := l.size; simp at this; omega
  have kc : ∀ i v, (W.alloc (.cells #[.int .i64 0, .int .i64 0, .int .i64 0, .int .i64 0] 59)).cell? ⟨W.heap.size, i, none⟩ = some v → w'.cell? ⟨W.heap.size, i, none⟩ = some v := fun i v h => kp' l (by simp) h
  have kf : ∀ i, w'.frozen? ⟨W.heap.size, i, none⟩ = false := fun i => (l.frozen (p := ⟨W.heap.size, i, none⟩) (by simp)).trans (by go_simp)
  exact ⟨hl, ⟨by omega, by omega⟩, ⟨kc 0 _ (by go_simp), kc 1 _ (by go_simp), kc 2 _ (by go_simp), kc 3 _ (by go_simp)⟩, kf 0, kf 1, kf 2, kf 3⟩
theorem z4_drew {W w' : World} (l : Below W.drew.heap.size W.drew w') : Below W.heap.size W w' := (Below.refl _ _).drew.trans l
theorem z4_old {W w' : World} {b : Nat} (l : Below W.heap.size W w') (h : Z4 W b) : Z4 w' b := by
  obtain ⟨h0, ⟨n1, n2⟩, ⟨a0, a1, a2, a3⟩, f0, f1, f2, f3⟩ := h
  have hz := l.size
  have fr : ∀ o, W.frozen? ⟨b, o, none⟩ = false → w'.frozen? ⟨b, o, none⟩ = false := fun o e => (l.frozen (p := ⟨b, o, none⟩) h0).trans e
  exact ⟨by omega, ⟨by omega, by omega⟩, ⟨kp' l h0 a0, kp' l h0 a1, kp' l h0 a2, kp' l h0 a3⟩, fr _ f0, fr _ f1, fr _ f2, fr _ f3⟩
def CutX (w : World) (a b c d : Pt) (t1 t2 t3 t4 : Int) (u : Value) (W : World) : Prop := ∃ g : Nat, u = .pointer (some ⟨g, 0, none⟩) ∧ (Below w.heap.size w W ∧ W.cell? ⟨w.heap.size, 0, none⟩ = some (.int .i64 a.x) ∧ W.cell? ⟨w.heap.size, 1, none⟩ = some (.int .i64 a.y) ∧ W.cell? ⟨w.heap.size + 1, 0, none⟩ = some (.int .i64 b.x) ∧ W.cell? ⟨w.heap.size + 1, 1, none⟩ = some (.int .i64 b.y) ∧ W.cell? ⟨w.heap.size + 1 + 1, 0, none⟩ = some (.int .i64 c.x) ∧ W.cell? ⟨w.heap.size + 1 + 1, 1, none⟩ = some (.int .i64 c.y) ∧ W.cell? ⟨w.heap.size + 1 + 1 + 1, 0, none⟩ = some (.int .i64 d.x) ∧ W.cell? ⟨w.heap.size + 1 + 1 + 1, 1, none⟩ = some (.int .i64 d.y)) ∧ W.cell? ⟨g, 0, none⟩ = some (.int .i64 t1) ∧ W.cell? ⟨g, 1, none⟩ = some (.int .i64 t2) ∧ W.cell? ⟨g, 2, none⟩ = some (.int .i64 t3) ∧ W.cell? ⟨g, 3, none⟩ = some (.int .i64 t4)
theorem mul_bd {x y : Int} (x1 : -1 ≤ x) (x2 : x ≤ 1) (y1 : -1 ≤ y) (y2 : y ≤ 1) : (-1 ≤ x * y ∧ x * y ≤ 1) ∧ IntKind.i64.wrap (x * y) = x * y ∧ wrap64 (x * y) = x * y := by
  have h := prod_le (a := x) (b := y) (A := 1) (B := 1) x1 x2 y1 y2 (by omega)
  refine ⟨by omega, IntWalk.i64_in _ (by omega), by rw [wrap64_eq]; omega⟩
set_option maxRecDepth 100000 in
set_option maxHeartbeats 16000000 in
theorem cross_any (a b c d : Pt) (w : World) : Calls Try.prog 18 #[.agg #[.int .i64 a.x, .int .i64 a.y], .agg #[.int .i64 b.x, .int .i64 b.y], .agg #[.int .i64 c.x, .int .i64 c.y], .agg #[.int .i64 d.x, .int .i64 d.y]] w fun e w' => e = .returned (.bool (crossB a b c d)) ∧ Below w.heap.size w w' := by
  have k1 := fun W => turn_any a b c W
  have k2 := fun W => turn_any a b d W
  have k3 := fun W => turn_any c d a W
  have k4 := fun W => turn_any c d b W
  have d1 := turn_bd a b c
  have d2 := turn_bd a b d
  have d3 := turn_bd c d a
  have d4 := turn_bd c d b
  obtain ⟨q, hq⟩ : ∃ q, q = crossB a b c d := ⟨_, rfl⟩
  rw [← hq]
  unfold crossB at hq
  obtain ⟨t1, e1⟩ : ∃ t, t = turnI a b c := ⟨_, rfl⟩
  obtain ⟨t2, e2⟩ : ∃ t, t = turnI a b d := ⟨_, rfl⟩
  obtain ⟨t3, e3⟩ : ∃ t, t = turnI c d a := ⟨_, rfl⟩
  obtain ⟨t4, e4⟩ : ∃ t, t = turnI c d b := ⟨_, rfl⟩
  rw [← e1] at k1 d1 hq
  rw [← e2] at k2 d2 hq
  rw [← e3] at k3 d3 hq
  rw [← e4] at k4 d4 hq
  have HQ := Lib.hid hq
  have K1 := Lib.hid k1
  have K2 := Lib.hid k2
  have K3 := Lib.hid k3
  have K4 := Lib.hid k4
  clear k1 k2 k3 k4 e1 e2 e3 e4 hq
  go_enter Try.func18, Try.ntmps18
  go_upto_region 2 with (fail)
  go_cut [9] (fun u W => CutX w a b c d t1 t2 t3 t4 u W)
  case first =>
    go_wp2_with fail
    have hSB := s8_start w a b c d
    generalize ((((w.alloc (.cells #[.int .i64 a.x, .int .i64 a.y] 23)).alloc (.cells #[.int .i64 b.x, .int .i64 b.y] 23)).alloc (.cells #[.int .i64 c.x, .int .i64 c.y] 23)).alloc (.cells #[.int .i64 d.x, .int .i64 d.y] 23)) = B at hSB ⊢
    have SB := Lib.hid hSB
    have hBs : w.heap.size + 1 + 1 + 1 < B.heap.size := cell_lt' hSB.2.2.2.2.2.2.2.2
    clear hSB
    go_region_held3 (fun W => Below w.heap.size w W ∧ W.cell? ⟨w.heap.size, 0, none⟩ = some (.int .i64 a.x) ∧ W.cell? ⟨w.heap.size, 1, none⟩ = some (.int .i64 a.y) ∧ W.cell? ⟨w.heap.size + 1, 0, none⟩ = some (.int .i64 b.x) ∧ W.cell? ⟨w.heap.size + 1, 1, none⟩ = some (.int .i64 b.y) ∧ W.cell? ⟨w.heap.size + 1 + 1, 0, none⟩ = some (.int .i64 c.x) ∧ W.cell? ⟨w.heap.size + 1 + 1, 1, none⟩ = some (.int .i64 c.y) ∧ W.cell? ⟨w.heap.size + 1 + 1 + 1, 0, none⟩ = some (.int .i64 d.x) ∧ W.cell? ⟨w.heap.size + 1 + 1 + 1, 1, none⟩ = some (.int .i64 d.y)) (repeat (first | with_reducible assumption | with_reducible exact SB.out | with_reducible refine s8_alloc _ ?_ | with_reducible refine s8_drew ?_ | with_reducible refine s8_put ?_ (by omega))) (first
      | (go_at_call 14; (with_reducible refine (K1.out _).mono ?_); rintro e w' ⟨rfl, l0⟩; (first | (with_reducible have l1 := z4_drew l0) | (have l1 := l0)); (try (with_reducible have Z1 := z4_new l1)); (try (with_reducible have Z5 := z4_old l1 (by with_reducible assumption))); (try (obtain ⟨_, ⟨_, _⟩, ⟨_, _, _, _⟩, _, _, _, _⟩ := (id Z1))); (try (obtain ⟨_, ⟨_, _⟩, ⟨_, _, _, _⟩, _, _, _, _⟩ := (id Z5))); (have q9 := l1.size); (try simp only [World.size_alloc] at q9); have hS := s8_keep (w := w) (a := a) (b := b) (c := c) (d := d) l1 (by repeat (first | with_reducible assumption | with_reducible exact SB.out | with_reducible refine s8_alloc _ ?_ | with_reducible refine s8_drew ?_ | with_reducible refine s8_put ?_ (by omega))); clear l1 l0)
      | (go_at_call 14; (with_reducible refine (K2.out _).mono ?_); rintro e w' ⟨rfl, l0⟩; (first | (with_reducible have l1 := z4_drew l0) | (have l1 := l0)); (try (with_reducible have Z1 := z4_new l1)); (try (with_reducible have Z5 := z4_old l1 (by with_reducible assumption))); (try (obtain ⟨_, ⟨_, _⟩, ⟨_, _, _, _⟩, _, _, _, _⟩ := (id Z1))); (try (obtain ⟨_, ⟨_, _⟩, ⟨_, _, _, _⟩, _, _, _, _⟩ := (id Z5))); (have q9 := l1.size); (try simp only [World.size_alloc] at q9); have hS := s8_keep (w := w) (a := a) (b := b) (c := c) (d := d) l1 (by repeat (first | with_reducible assumption | with_reducible exact SB.out | with_reducible refine s8_alloc _ ?_ | with_reducible refine s8_drew ?_ | with_reducible refine s8_put ?_ (by omega))); clear l1 l0)
      | (go_at_call 14; (with_reducible refine (K3.out _).mono ?_); rintro e w' ⟨rfl, l0⟩; (first | (with_reducible have l1 := z4_drew l0) | (have l1 := l0)); (try (with_reducible have Z1 := z4_new l1)); (try (with_reducible have Z5 := z4_old l1 (by with_reducible assumption))); (try (obtain ⟨_, ⟨_, _⟩, ⟨_, _, _, _⟩, _, _, _, _⟩ := (id Z1))); (try (obtain ⟨_, ⟨_, _⟩, ⟨_, _, _, _⟩, _, _, _, _⟩ := (id Z5))); (have q9 := l1.size); (try simp only [World.size_alloc] at q9); have hS := s8_keep (w := w) (a := a) (b := b) (c := c) (d := d) l1 (by repeat (first | with_reducible assumption | with_reducible exact SB.out | with_reducible refine s8_alloc _ ?_ | with_reducible refine s8_drew ?_ | with_reducible refine s8_put ?_ (by omega))); clear l1 l0)
      | (go_at_call 14; (with_reducible refine (K4.out _).mono ?_); rintro e w' ⟨rfl, l0⟩; (first | (with_reducible have l1 := z4_drew l0) | (have l1 := l0)); (try (with_reducible have Z1 := z4_new l1)); (try (with_reducible have Z5 := z4_old l1 (by with_reducible assumption))); (try (obtain ⟨_, ⟨_, _⟩, ⟨_, _, _, _⟩, _, _, _, _⟩ := (id Z1))); (try (obtain ⟨_, ⟨_, _⟩, ⟨_, _, _, _⟩, _, _, _, _⟩ := (id Z5))); (have q9 := l1.size); (try simp only [World.size_alloc] at q9); have hS := s8_keep (w := w) (a := a) (b := b) (c := c) (d := d) l1 (by repeat (first | with_reducible assumption | with_reducible exact SB.out | with_reducible refine s8_alloc _ ?_ | with_reducible refine s8_drew ?_ | with_reducible refine s8_put ?_ (by omega))); clear l1 l0))
    all_goals go_wp2_with fail
    all_goals go_meet
    all_goals refine ⟨_, rfl, ?_, ?_⟩
    all_goals first | (repeat (first | with_reducible assumption | with_reducible exact SB.out | with_reducible refine s8_alloc _ ?_ | with_reducible refine s8_drew ?_ | with_reducible refine s8_put ?_ (by omega)); done) | skip
    all_goals (refine ⟨?_, ?_, ?_, ?_⟩ <;> go_simp)
  case rest =>
    obtain ⟨g, rfl, hS, g0, g1, g2, g3⟩ := hcut
    have HL := Lib.hid hS.1
    obtain ⟨⟨m1, m2⟩, m3, m4⟩ := mul_bd d1.1 d1.2 d2.1 d2.2
    obtain ⟨⟨n1, n2⟩, n3, n4⟩ := mul_bd d3.1 d3.2 d4.1 d4.2
    clear hS
    by_cases h1 : t1 * t2 < 0
    · go_wp2
      go_ret
      exact ⟨ret_b (by rw [HQ.out]; first | (simp only [h1, true_and]) | (symm; simp; omega) | (simp [h1])), HL.out⟩
    · go_wp2
      go_ret
      exact ⟨ret_b (by rw [HQ.out]; simp; omega), HL.out⟩
end Go.Proofs.Ytehmdokcdnlcdaa
