/- Rows of figures in memory; the document's Of and Int. -/
import Derived.Test.YtdpgoddhchoefaaWRowM
import Derived.Test.YtdpgoddhchoefaaMMem
import Derived.Deep.DeepCutAuto
import Derived.Deep.LoopGhost
import Derived.BigRegion
import Derived.RegionTactic
import Derived.WalkSmall
import Derived.Outline
namespace Go.Proofs.Ytdpgoddhchoefaa
open Go.RowKit
set_option linter.unusedVariables false

/-- The document's row of a number. -/
def rowV (x : Int) : Value := .agg #[.int .i64 (rowF x 0), .int .i64 (rowF x 1), .int .i64 (rowF x 2), .int .i64 (rowF x 3), .int .i64 (rowF x 4), .int .i64 (rowF x 5), .int .i64 (rowF x 6), .int .i64 (rowF x 7)]
/-- An array of eight numbers. -/
def ArrI (w : World) (T b : Nat) (F : Nat → Int) : Prop := w.rowIs b T 8 (fun i => .int .i64 (F i))
theorem arrI_start (w : World) (T : Nat) : ArrI (w.alloc (.cells (Array.replicate 8 (.int .i64 0)) T)) T w.heap.size (fun _ => 0) := by
  have h := World.rowIs_alloc w (Array.replicate 8 (.int .i64 0)) T (fun _ => .int .i64 0) (fun i hi => by
    rw [Array.size_replicate] at hi
    rw [Array.getElem?_replicate, if_pos hi])
  rwa [Array.size_replicate] at h
theorem ArrI.set {w : World} {T b : Nat} {F : Nat → Int} (h : ArrI w T b F) (i : Nat) (v u : Int) (hu : u = v) : ArrI (w.setCell ⟨b, i, none⟩ (.int .i64 u)) T b (updI F i v) := by
  subst hu
  exact (World.rowIs.set h i (.int .i64 u)).congr fun j _ => by unfold updI; by_cases e : j = i <;> simp [e]
theorem ArrI.keep {w w' : World} {T b B : Nat} {F : Nat → Int} (h : ArrI w T b F) (l : Below B w w') (hb : b < B) : ArrI w' T b F := World.rowIs.of_block h (l.block b hb)
theorem ArrI.cells {w : World} {T b : Nat} {F G : Nat → Int} (h : ArrI w T b F) (e : ∀ i, i < 8 → F i = G i) :
    w.cell? ⟨b, 0, none⟩ = some (.int .i64 (G 0)) ∧ w.cell? ⟨b, 1, none⟩ = some (.int .i64 (G 1)) ∧ w.cell? ⟨b, 2, none⟩ = some (.int .i64 (G 2)) ∧ w.cell? ⟨b, 3, none⟩ = some (.int .i64 (G 3)) ∧ w.cell? ⟨b, 4, none⟩ = some (.int .i64 (G 4)) ∧ w.cell? ⟨b, 5, none⟩ = some (.int .i64 (G 5)) ∧ w.cell? ⟨b, 6, none⟩ = some (.int .i64 (G 6)) ∧ w.cell? ⟨b, 7, none⟩ = some (.int .i64 (G 7)) := by
  have k : ∀ i, i < 8 → w.cell? ⟨b, i, none⟩ = some (.int .i64 (G i)) := fun i hi => by rw [← e i hi]; exact World.rowIs.cell h hi
  exact ⟨k 0 (by omega), k 1 (by omega), k 2 (by omega), k 3 (by omega), k 4 (by omega), k 5 (by omega), k 6 (by omega), k 7 (by omega)⟩
theorem ArrI.free {w : World} {T b : Nat} {F : Nat → Int} (h : ArrI w T b F) :
    w.frozen? ⟨b, 0, none⟩ = false ∧ w.frozen? ⟨b, 1, none⟩ = false ∧ w.frozen? ⟨b, 2, none⟩ = false ∧ w.frozen? ⟨b, 3, none⟩ = false ∧ w.frozen? ⟨b, 4, none⟩ = false ∧ w.frozen? ⟨b, 5, none⟩ = false ∧ w.frozen? ⟨b, 6, none⟩ = false ∧ w.frozen? ⟨b, 7, none⟩ = false :=
  ⟨World.rowIs.frozen h 0, World.rowIs.frozen h 1, World.rowIs.frozen h 2, World.rowIs.frozen h 3, World.rowIs.frozen h 4, World.rowIs.frozen h 5, World.rowIs.frozen h 6, World.rowIs.frozen h 7⟩
/-- All eight stored anew. -/
theorem ArrI.eight {w : World} {T b : Nat} {F : Nat → Int} (h : ArrI w T b F) (G : Nat → Int) : ArrI ((((((((w.setCell ⟨b, 0, none⟩ (.int .i64 (G 0))).setCell ⟨b, 1, none⟩ (.int .i64 (G 1))).setCell ⟨b, 2, none⟩ (.int .i64 (G 2))).setCell ⟨b, 3, none⟩ (.int .i64 (G 3))).setCell ⟨b, 4, none⟩ (.int .i64 (G 4))).setCell ⟨b, 5, none⟩ (.int .i64 (G 5))).setCell ⟨b, 6, none⟩ (.int .i64 (G 6))).setCell ⟨b, 7, none⟩ (.int .i64 (G 7))) T b G :=
  (((((((((h.set 0 _ _ rfl).set 1 _ _ rfl).set 2 _ _ rfl).set 3 _ _ rfl).set 4 _ _ rfl).set 5 _ _ rfl).set 6 _ _ rfl).set 7 _ _ rfl)).congr fun i hi => by
    rcases i with _ | _ | _ | _ | _ | _ | _ | _ | i <;> first | rfl | omega
theorem below_eight {w0 w : World} {B b : Nat} (h : Below B w0 w) (hb : B ≤ b) (G : Nat → Int) : Below B w0 ((((((((w.setCell ⟨b, 0, none⟩ (.int .i64 (G 0))).setCell ⟨b, 1, none⟩ (.int .i64 (G 1))).setCell ⟨b, 2, none⟩ (.int .i64 (G 2))).setCell ⟨b, 3, none⟩ (.int .i64 (G 3))).setCell ⟨b, 4, none⟩ (.int .i64 (G 4))).setCell ⟨b, 5, none⟩ (.int .i64 (G 5))).setCell ⟨b, 6, none⟩ (.int .i64 (G 6))).setCell ⟨b, 7, none⟩ (.int .i64 (G 7))) :=
  (((((((h.setCell (p := ⟨b, 0, none⟩) hb _).setCell (p := ⟨b, 1, none⟩) hb _).setCell (p := ⟨b, 2, none⟩) hb _).setCell (p := ⟨b, 3, none⟩) hb _).setCell (p := ⟨b, 4, none⟩) hb _).setCell (p := ⟨b, 5, none⟩) hb _).setCell (p := ⟨b, 6, none⟩) hb _).setCell (p := ⟨b, 7, none⟩) hb _
theorem int_eq' {k : IntKind} {a b : Int} (h : a = b) : Value.int k a = Value.int k b := by rw [h]
/-- One step of Of: the lower figure, and the higher one. -/
theorem low_fig (x : Int) (i : Nat) (hi : i < 4) : loW x / 65536 ^ i % 65536 = rowF x i := by
  unfold rowF loW
  rcases i with _ | _ | _ | _ | i <;> first | omega | (simp only [Nat.reduceAdd, Int.reducePow, Int.pow_zero, Int.ediv_one]; omega)
theorem high_fig (x : Int) (i : Nat) (hi : i < 4) : hiW x / 65536 ^ i % 65536 = rowF x (4 + i) := by
  unfold rowF hiW
  rcases i with _ | _ | _ | _ | i <;> first | omega | (simp only [Nat.reduceAdd, Int.reducePow, Int.pow_zero, Int.ediv_one]; omega)
theorem tmod_fix (h : Int) : (¬ h.tmod 65536 < 0 → h.tmod 65536 = h % 65536) ∧ (h.tmod 65536 < 0 → h.tmod 65536 + 65536 = h % 65536) := by
  have h1 := Int.emod_emod_of_dvd h (show (65536 : Int) ∣ 65536 by omega)
  constructor
  · intro hn
    rcases Int.lt_or_le h 0 with hl | hl
    · have e : h.tmod 65536 = -((-h) % 65536) := by rw [← Int.tmod_eq_emod_of_nonneg (by omega : 0 ≤ -h), Int.neg_tmod, Int.neg_neg]
      rw [e] at hn ⊢
      omega
    · exact Int.tmod_eq_emod_of_nonneg hl
  · intro hn
    rcases Int.lt_or_le h 0 with hl | hl
    · have e : h.tmod 65536 = -((-h) % 65536) := by rw [← Int.tmod_eq_emod_of_nonneg (by omega : 0 ≤ -h), Int.neg_tmod, Int.neg_neg]
      rw [e] at hn ⊢
      omega
    · have := Int.tmod_eq_emod_of_nonneg (b := 65536) hl
      omega
theorem tdiv_fix (h : Int) : (h - h % 65536).tdiv 65536 = h / 65536 := by
  have e : h - h % 65536 = h / 65536 * 65536 := by omega
  rw [e, Int.mul_tdiv_cancel _ (by omega)]
end Go.Proofs.Ytdpgoddhchoefaa
