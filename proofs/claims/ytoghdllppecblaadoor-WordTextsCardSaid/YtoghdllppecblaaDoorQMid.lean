/- word's Words: within a word: what lies in memory, store by store. -/
import Derived.Test.YtoghdllppecblaaDoorQWordsM
import Derived.RangeFuncNested
import Derived.RangeFuncBox
import Derived.RangeFuncCalls
import Derived.Deep.RegionHeldLaw
namespace Go.Proofs.YtoghdllppecblaaDoor
open Go.RowKit
set_option linter.unusedVariables false
set_option linter.unusedSimpArgs false

/-- What lies in the caller's own blocks between two rounds. -/
def IWs (w : World) (s : St) (W : World) : Prop :=
  ((∃ v, Boxed W w.heap.size 28 v ∧ W.ownsRow w.heap.size 33 3 v s.1.length (rowW s.1) ∧ (v = .slice none 0 0 ↔ s.1 = [])) ∧ (Boxed W (w.heap.size + 1) 4 (.bool s.2.1) ∧ Boxed W (w.heap.size + 1 + 1) 4 (.bool s.2.2))) ∧ (Below w.heap.size w W ∧ w.heap.size + 4 ≤ W.heap.size)
/-- What a round keeps. -/
def KK (B n₀ : Nat) (W W' : World) : Prop := KeepsFrom B W W' ∧ KpS n₀ W W'
theorem KK.refl (B n₀ : Nat) (W : World) : KK B n₀ W W := ⟨KeepsFrom.refl _ _, Below.refl _ _, KeepsWalks.refl _⟩
theorem KK.set {B n₀ : Nat} {W W' : World} (h : KK B n₀ W W') (b o : Nat) (hb : n₀ ≤ b) (v : Value) : KK B n₀ W (W'.setCell ⟨b, o, none⟩ v) :=
  ⟨h.1.trans ((KeepsOthers.setCell _ _ _).from _), h.2.1.setCell (p := ⟨b, o, none⟩) hb v, h.2.2.trans (KeepsWalks.setCell _ _ _)⟩
theorem KK.drewN {B n₀ : Nat} {W W' : World} (h : KK B n₀ W W') (k : Nat) : KK B n₀ W (W'.drewN k) :=
  ⟨⟨h.1.size, h.1.same⟩, h.2.1.trans ⟨rfl, rfl, rfl, Nat.le_refl _, fun _ _ => rfl⟩, ⟨h.2.2.size, h.2.2.same⟩⟩
/-- Within a word: it is the last one. -/
structure Mid (w : World) (ini : List Wd) (wd : Wd) (full : Bool) (g cap Bx : Nat) (tx : ByteArray) (xb : Nat) (W : World) : Prop where
  bV : Boxed W w.heap.size 28 (.slice (some ⟨g, 0, none⟩) (ini.length + 1) cap)
  row : W.ownsRow w.heap.size 33 3 (.slice (some ⟨g, 0, none⟩) (ini.length + 1) cap) (ini.length + 1) (rowW (ini ++ [wd]))
  bI : Boxed W (w.heap.size + 1) 4 (.bool true)
  bF : Boxed W (w.heap.size + 1 + 1) 4 (.bool full)
  y0 : W.cell? ⟨Bx, 0, none⟩ = some (.string tx)
  y2 : W.cell? ⟨Bx, 2, none⟩ = some (.int .i64 (xb : Nat))
  ne : g ≠ Bx
  hx : w.heap.size + 3 < Bx
  below : Below w.heap.size w W
  sz : w.heap.size + 4 ≤ W.heap.size
variable {w W : World} {ini : List Wd} {wd : Wd} {full : Bool} {g cap Bx : Nat} {tx : ByteArray} {xb : Nat}
theorem Mid.n1 (h : Mid w ini wd full g cap Bx tx xb W) : g ≠ w.heap.size := fun e => h.bV.not_row (by decide) h.row (by rw [e]; rfl)
theorem Mid.n2 (h : Mid w ini wd full g cap Bx tx xb W) : g ≠ w.heap.size + 1 := fun e => h.bI.not_row (by decide) h.row (by rw [e]; rfl)
theorem Mid.n3 (h : Mid w ini wd full g cap Bx tx xb W) : g ≠ w.heap.size + 1 + 1 := fun e => h.bF.not_row (by decide) h.row (by rw [e]; rfl)
theorem Mid.base (h : Mid w ini wd full g cap Bx tx xb W) : w.heap.size ≤ g ∧ g < W.heap.size := h.row.lt g rfl
theorem Mid.cell (h : Mid w ini wd full g cap Bx tx xb W) (j : Nat) (v : Value) (hv : (wdC wd)[j]? = some v) : W.cell? ⟨g, ini.length * 3 + j, none⟩ = some v := by
  have hj : j < 3 := by have := (List.getElem?_eq_some_iff.1 hv).1; simpa [wdC] using this
  rw [World.ownsRow.cellAt (w := W) (base := w.heap.size) (e := 33) (size := 3) h.row _ (by omega), rowW_get, hv]
theorem Mid.c0 (h : Mid w ini wd full g cap Bx tx xb W) : W.cell? ⟨g, ini.length * 3, none⟩ = some (.string (mkB wd.text)) := h.cell 0 _ rfl
theorem Mid.c2 (h : Mid w ini wd full g cap Bx tx xb W) : W.cell? ⟨g, ini.length * 3 + 2, none⟩ = some (.int .i64 (wd.b : Nat)) := h.cell 2 _ rfl
theorem Mid.fz (h : Mid w ini wd full g cap Bx tx xb W) (j : Nat) : W.frozen? ⟨g, j, none⟩ = false := by
  rcases h.row.2 with ⟨hv, _⟩ | ⟨g', cap', cur, hv, _, hg, _⟩
  · cases hv
  · injection hv with hv _ _
    injection hv with hv
    injection hv with hv _ _
    subst hv
    simp [World.frozen?, hg]
theorem setCell_grown (W : World) (b o : Nat) (v : Value) : W.grownBy (W.setCell ⟨b, o, none⟩ v) (some b) := grown_store W ⟨b, o, none⟩ v
theorem Mid.store (h : Mid w ini wd full g cap Bx tx xb W) (j : Nat) (u : Value) (wd' : Wd) (hr : (rowW (ini ++ [wd])).set j u = rowW (ini ++ [wd'])) : Mid w ini wd' full g cap Bx tx xb (W.setCell ⟨g, j, none⟩ u) where
  bV := h.bV.kept (setCell_grown W g j u) (fun e => h.n1 (Option.some.inj e).symm)
  row := by have := (World.ownsRow.stored h.row j u).1; rw [hr] at this; exact this
  bI := h.bI.kept (setCell_grown W g j u) (fun e => h.n2 (Option.some.inj e).symm)
  bF := h.bF.kept (setCell_grown W g j u) (fun e => h.n3 (Option.some.inj e).symm)
  y0 := (World.cell?_setCell_far _ _ _ _ (by exact h.ne)).trans h.y0
  y2 := (World.cell?_setCell_far _ _ _ _ (by exact h.ne)).trans h.y2
  ne := h.ne
  hx := h.hx
  below := h.below.setCell (p := ⟨g, j, none⟩) h.base.1 u
  sz := by simpa using h.sz
theorem Mid.to (h : Mid w ini wd full g cap Bx tx xb W) (c : Nat) : Mid w ini ⟨wd.text, wd.a, c⟩ full g cap Bx tx xb (W.setCell ⟨g, ini.length * 3 + 2, none⟩ (.int .i64 (c : Nat))) := h.store _ _ _ (rowW_set2 ini wd c)
theorem rowW_set0 (ini : List Wd) (w : Wd) (u : List UInt8) : (rowW (ini ++ [w])).set (ini.length * 3) (.string (mkB u)) = rowW (ini ++ [⟨u, w.a, w.b⟩]) := by
  rw [rowW_snoc, rowW_snoc]
  rw [List.set_append_right _ _ (by rw [rowW_len]; omega), rowW_len]
  have e1 : ini.length * 3 - ini.length * 3 = 0 := by omega
  rw [e1]
  rfl
theorem Mid.text (h : Mid w ini wd full g cap Bx tx xb W) (u : List UInt8) : Mid w ini ⟨u, wd.a, wd.b⟩ full g cap Bx tx xb (W.setCell ⟨g, ini.length * 3, none⟩ (.string (mkB u))) := h.store _ _ _ (rowW_set0 ini wd u)
theorem Mid.setFull (h : Mid w ini wd full g cap Bx tx xb W) (f : Bool) : Mid w ini wd f g cap Bx tx xb (W.setCell ⟨w.heap.size + 1 + 1, 0, none⟩ (.bool f)) where
  bV := h.bV.other (by omega) _
  row := ownsRow_setCell_other (a := ⟨w.heap.size + 1 + 1, 0, none⟩) h.row (fun e => h.n3 (Option.some.inj e)) _
  bI := h.bI.other (by omega) _
  bF := h.bF.set _
  y0 := (World.cell?_setCell_far _ _ _ _ (by have := h.hx; show w.heap.size + 1 + 1 ≠ Bx; omega)).trans h.y0
  y2 := (World.cell?_setCell_far _ _ _ _ (by have := h.hx; show w.heap.size + 1 + 1 ≠ Bx; omega)).trans h.y2
  ne := h.ne
  hx := h.hx
  below := h.below.setCell (p := ⟨w.heap.size + 1 + 1, 0, none⟩) (by show w.heap.size ≤ w.heap.size + 1 + 1; omega) _
  sz := by simpa using h.sz
theorem Mid.drewN (h : Mid w ini wd full g cap Bx tx xb W) (k : Nat) : Mid w ini wd full g cap Bx tx xb (W.drewN k) where
  bV := h.bV
  row := h.row.kept (grown_draws W k none) (.inr (by intro e; cases e))
  bI := h.bI
  bF := h.bF
  y0 := h.y0
  y2 := h.y2
  ne := h.ne
  hx := h.hx
  below := h.below.trans ⟨rfl, rfl, rfl, Nat.le_refl _, fun _ _ => rfl⟩
  sz := h.sz
theorem Mid.drew (h : Mid w ini wd full g cap Bx tx xb W) : Mid w ini wd full g cap Bx tx xb W.drew := h.drewN 1
theorem KK.drew {B n₀ : Nat} {W W' : World} (h : KK B n₀ W W') : KK B n₀ W W'.drew := h.drewN 1
theorem Mid.done (h : Mid w ini wd full g cap Bx tx xb W) : IWs w (ini ++ [wd], true, full) W :=
  ⟨⟨⟨_, h.bV, by simpa using h.row, by simp⟩, h.bI, h.bF⟩, h.below, h.sz⟩
section
variable {w1 : World} {v : Value} {ws : List Wd} {xa : Nat} {ins : Bool}
theorem begin_box {b : Nat} {u : Value} (hb : Boxed W b 4 u) (hne : b ≠ w.heap.size) (hrow : W.ownsRow w.heap.size 33 3 v ws.length (rowW ws)) {o : Obj} (hgr : (W.alloc o).grownBy w1 v.ownBlock) (x : Value) : Boxed (w1.setCell ⟨w.heap.size, 0, none⟩ x) b 4 u :=
  ((hb.alloc o).kept hgr (hb.not_row (by decide) hrow)).other hne x
theorem Mid.begin (bV : Boxed (w1.setCell ⟨w.heap.size, 0, none⟩ (.slice (some ⟨g, 0, none⟩) (ws.length + 1) cap)) w.heap.size 28 (.slice (some ⟨g, 0, none⟩) (ws.length + 1) cap))
    (hown : (w1.setCell ⟨w.heap.size, 0, none⟩ (.slice (some ⟨g, 0, none⟩) (ws.length + 1) cap)).ownsRow w.heap.size 33 3 (.slice (some ⟨g, 0, none⟩) (ws.length + 1) cap) (ws.length + 1) (rowW ws ++ [.string ⟨#[]⟩, .int .i64 (xa : Nat), .int .i64 0]))
    (hrow : W.ownsRow w.heap.size 33 3 v ws.length (rowW ws)) (bI1 : Boxed W (w.heap.size + 1) 4 (.bool ins)) (bF1 : Boxed W (w.heap.size + 1 + 1) 4 (.bool full))
    (y0 : W.cell? ⟨Bx, 0, none⟩ = some (.string tx)) (y2 : W.cell? ⟨Bx, 2, none⟩ = some (.int .i64 (xb : Nat))) (hx1 : w.heap.size + 3 < Bx) (hx2 : Bx < W.heap.size) (hv2 : v.ownBlock ≠ some Bx) (hz : w.heap.size + 4 ≤ W.heap.size)
    {o : Obj} (hgr : (W.alloc o).grownBy w1 v.ownBlock) (hat : some g = v.ownBlock ∨ some g = some (W.heap.size + 1))
    (hB1 : Below w.heap.size w W) (hb2 : Below w.heap.size W (w1.setCell ⟨w.heap.size, 0, none⟩ (.slice (some ⟨g, 0, none⟩) (ws.length + 1) cap))) :
    Mid w ws ⟨[], xa, 0⟩ false g cap Bx tx xb (((w1.setCell ⟨w.heap.size, 0, none⟩ (.slice (some ⟨g, 0, none⟩) (ws.length + 1) cap)).setCell ⟨w.heap.size + 1, 0, none⟩ (.bool true)).setCell ⟨w.heap.size + 1 + 1, 0, none⟩ (.bool false)) := by
  have bI2 := begin_box bI1 (by omega) hrow hgr (.slice (some ⟨g, 0, none⟩) (ws.length + 1) cap)
  have bF2 := begin_box bF1 (by omega) hrow hgr (.slice (some ⟨g, 0, none⟩) (ws.length + 1) cap)
  have yk : ∀ (j : Nat) (u : Value), W.cell? ⟨Bx, j, none⟩ = some u → (w1.setCell ⟨w.heap.size, 0, none⟩ (.slice (some ⟨g, 0, none⟩) (ws.length + 1) cap)).cell? ⟨Bx, j, none⟩ = some u := fun j u h =>
    (World.cell?_setCell_far _ _ _ _ (by show w.heap.size ≠ Bx; omega)).trans ((World.cell?_of_block (w := W.alloc o) (a := ⟨Bx, j, none⟩) (hgr.block Bx (by simp; omega) (fun e => hv2 e.symm))).trans ((World.cell?_of_block (w := W) (a := ⟨Bx, j, none⟩) (Below.heap_alloc W o Bx hx2)).trans h))
  have hne : g ≠ Bx := by
    rcases hat with h | h
    · exact fun e => hv2 (by rw [← h, e])
    · have := Option.some.inj h; omega
  have hn2 : g ≠ w.heap.size + 1 := fun e => bI2.not_row (by decide) hown (by rw [e]; rfl)
  have hsz : (w1.setCell ⟨w.heap.size, 0, none⟩ (.slice (some ⟨g, 0, none⟩) (ws.length + 1) cap)).heap.size = w1.heap.size := by simp
  have M : Mid w ws ⟨[], xa, 0⟩ full g cap Bx tx xb ((w1.setCell ⟨w.heap.size, 0, none⟩ (.slice (some ⟨g, 0, none⟩) (ws.length + 1) cap)).setCell ⟨w.heap.size + 1, 0, none⟩ (.bool true)) :=
    { bV := bV.other (by omega) _
      row := by
        have h := ownsRow_setCell_other (a := ⟨w.heap.size + 1, 0, none⟩) hown (fun e => hn2 (Option.some.inj e)) (.bool true)
        rw [rowW_snoc]
        exact h
      bI := bI2.set _
      bF := bF2.other (by omega) _
      y0 := (World.cell?_setCell_far _ _ _ _ (by show w.heap.size + 1 ≠ Bx; omega)).trans (yk 0 _ y0)
      y2 := (World.cell?_setCell_far _ _ _ _ (by show w.heap.size + 1 ≠ Bx; omega)).trans (yk 2 _ y2)
      ne := hne
      hx := hx1
      below := (hB1.trans hb2).setCell (p := ⟨w.heap.size + 1, 0, none⟩) (by show w.heap.size ≤ w.heap.size + 1; omega) _
      sz := by have := hb2.size; rw [hsz] at this; simp; omega }
  exact M.setFull false
end
end Go.Proofs.YtoghdllppecblaaDoor
