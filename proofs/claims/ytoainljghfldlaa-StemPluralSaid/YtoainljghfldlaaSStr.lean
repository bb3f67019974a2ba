/- stem: words on strings of bytes (as in word's texts: where those stand in the seat, this one is not wanted). -/
import Derived.Test.YtoainljghfldlaaProg
import Derived.WalkKit
import Derived.Lib.Hide
import Derived.Lib.MapLaws
import Derived.Lib.OthersKept
import Derived.Lib.TrimU
import Derived.Lib.QuoteLoop
import Derived.RangeFuncNested
import Derived.RangeFuncBound
import Derived.RangeFuncCalls
import Derived.RangeFuncLeaves
import Derived.RangeFuncBox
import Derived.Shelf.Abstract
import Derived.Shelf.RegionOpen
import Derived.OwnWalkIn
import Derived.TacticsInMore
import Derived.LoopNIn
import Derived.LoopIn
import Derived.Sort.CutIn
import Derived.Deep.LoopGhost
import Derived.Maps.AppendAt
import Derived.Deep.MidRow
import Derived.Below
namespace Go.Proofs.Ytoainljghfldlaa
open Go.RowKit
set_option linter.unusedVariables false
set_option linter.unusedSimpArgs false

def mkB (l : List UInt8) : ByteArray := ⟨l.toArray⟩
theorem mkB_toList (b : ByteArray) : mkB b.data.toList = b := by unfold mkB; simp
theorem mkB_inj {a b : List UInt8} (h : mkB a = mkB b) : a = b := by
  have := congrArg (fun x : ByteArray => x.data.toList) h
  simpa [mkB] using this
theorem mkB_size (l : List UInt8) : (mkB l).size = l.length := by simp [mkB, ByteArray.size]
theorem mkB_app (a b : List UInt8) : mkB a ++ mkB b = mkB (a ++ b) := by
  apply ByteArray.ext
  simp [mkB, ByteArray.data_append]
theorem ret_b {a b : Bool} (h : a = b) : Ending.returned (.bool a) = .returned (.bool b) := by rw [h]
theorem ret_i {k : IntKind} {a b : Int} (h : a = b) : Ending.returned (.int k a) = .returned (.int k b) := by rw [h]
theorem ret_s {a b : ByteArray} (h : a = b) : Ending.returned (.string a) = .returned (.string b) := by rw [h]
theorem kp' {a w : World} {b o : Nat} {v : Value} {B : Nat} (hb : Below B a w) (hlt : b < B) (h : a.cell? ⟨b, o, none⟩ = some v) : w.cell? ⟨b, o, none⟩ = some v := (hb.cell (p := ⟨b, o, none⟩) hlt).trans h
theorem cell_lt' {w : World} {b o : Nat} {v : Value} (h : w.cell? ⟨b, o, none⟩ = some v) : b < w.heap.size := by
  rcases Nat.lt_or_ge b w.heap.size with hlt | hge
  · exact hlt
  · rw [World.cell?, Array.getElem?_eq_none hge] at h
    cases h
theorem below2' {w w1 w2 : World} (a : Below w.heap.size w w1) (b : Below w1.heap.size w1 w2) : Below w.heap.size w w2 := a.trans (b.mono a.size)
theorem rangeAt_below {w w' : World} {g : Nat} {cs : List Value} (h : w.rangeAt g 0 cs) (hb : Below w.heap.size w w') : w'.rangeAt g 0 cs := by
  intro j v hj
  exact kp' hb (cell_lt' (h j v hj)) (h j v hj)
theorem ba_eq {a b : ByteArray} : (a.toList == b.toList) = decide (a = b) := by
  by_cases h : a = b
  · simp [h]
  · have : a.toList ≠ b.toList := fun e => h (by
      rw [ByteArray.toList_eq, ByteArray.toList_eq] at e
      obtain ⟨⟨a⟩⟩ := a
      obtain ⟨⟨b⟩⟩ := b
      simp at e
      rw [e])
    simp [h, this]
def dec (l : List UInt8) (p : Nat) : Nat × Nat := Lib.decodeL (l.drop p)
theorem dec_model (l : List UInt8) (p : Nat) : Utf8.decode (mkB l) p = dec l p := by
  unfold dec
  rw [← Lib.decodeL_drop (mkB l) p]
  simp [mkB]
theorem dec_w (l : List UInt8) (p : Nat) : 1 ≤ (dec l p).2 := Lib.decodeL_width _
theorem dec_rune (l : List UInt8) (p : Nat) : (dec l p).1 < 55296 ∨ (57343 < (dec l p).1 ∧ (dec l p).1 ≤ 1114111) := by
  unfold dec
  rw [Lib.decodeL_N]
  exact Lib.decodeN_valid _ _ _ _ _ (UInt8.toNat_lt _)
/-- What a round that goes on keeps. -/
def KpS (n₀ : Nat) (A B : World) : Prop := Below n₀ A B ∧ KeepsWalks A B
theorem iter_grown (w : World) (k : Nat) (s : ByteArray) (p : Nat) : w.grownBy (w.iterAt k s p) (some k) where
  os := rfl
  tape := rfl
  output := rfl
  size := by rw [Lib.iterAt_size]; exact Nat.le_refl _
  block i _ hne := Lib.iterAt_other w k i s p (fun e => hne (by rw [e]))
theorem iterPos_of' {w : World} {k : Nat} {s : ByteArray} {p : Nat} (h : w.heap[k]? = some (.stringIter s p)) : w.iterPos k = p := by simp [World.iterPos, h]
end Go.Proofs.Ytoainljghfldlaa
