/- The value of a row of figures: plain words, no walk. -/
import Derived.Test.YtoeddhkbifeamaaDoorNCut
import Derived.Lib.TrimByte
import Derived.Lib.Strings
namespace Go.Proofs.YtoeddhkbifeamaaDoor
open Go.RowKit

/-- Are they figures alone? -/
def Figs (l : List UInt8) : Prop := ∀ c ∈ l, fig c = true
/-- A row of figures as a number. -/
def valL (l : List UInt8) : Nat := l.foldl (fun n c => 10 * n + (c.toNat - 48)) 0
/-- The same, held at 2^20. -/
def clipL (l : List UInt8) : Nat := l.foldl (fun n c => min (10 * n + (c.toNat - 48)) 1048576) 0
theorem valL_snoc (l : List UInt8) (c : UInt8) : valL (l ++ [c]) = 10 * valL l + (c.toNat - 48) := by simp [valL]
theorem clipL_snoc (l : List UInt8) (c : UInt8) : clipL (l ++ [c]) = min (10 * clipL l + (c.toNat - 48)) 1048576 := by simp [clipL]
theorem snoc_induction {P : List UInt8 → Prop} (h0 : P []) (h1 : ∀ l c, P l → P (l ++ [c])) (l : List UInt8) : P l := by
  have : ∀ r : List UInt8, P r.reverse := by
    intro r
    induction r with
    | nil => exact h0
    | cons c r ih => rw [List.reverse_cons]; exact h1 _ c ih
  have := this l.reverse
  rwa [List.reverse_reverse] at this
theorem clipL_le (l : List UInt8) : clipL l ≤ 1048576 := by
  refine snoc_induction (P := fun l => clipL l ≤ 1048576) (by decide) (fun l c _ => ?_) l
  show clipL (l ++ [c]) ≤ 1048576
  rw [clipL_snoc]
  omega
theorem valL_lt (l : List UInt8) (h : Figs l) : valL l < 10 ^ l.length := by
  revert h
  refine snoc_induction (P := fun l => Figs l → valL l < 10 ^ l.length) (fun _ => by decide) (fun l c ih h => ?_) l
  have h1 := ih fun x hx => h x (by simp [hx])
  have h2 := fig_yes (h c (by simp))
  show valL (l ++ [c]) < 10 ^ (l ++ [c]).length
  rw [valL_snoc, List.length_append, List.length_singleton, Nat.pow_succ]
  omega
theorem take_snoc (s : ByteArray) (k : Nat) (h : k < s.size) : s.data.toList.take (k + 1) = s.data.toList.take k ++ [s[k]] := by
  rw [List.take_succ_eq_append_getElem (by simpa using h), byteOf s k h]
theorem Figs.at {s : ByteArray} (h : Figs s.data.toList) (k : Nat) (hk : k < s.size) : fig s[k] = true := by
  refine h _ ?_
  rw [← byteOf s k hk]
  exact List.getElem_mem _
theorem Figs.sub {l m : List UInt8} (h : Figs l) (hm : ∀ c ∈ m, c ∈ l) : Figs m := fun c hc => h c (hm c hc)
theorem Figs.append {l m : List UInt8} (h : Figs l) (k : Figs m) : Figs (l ++ m) := fun c hc => by
  rcases List.mem_append.1 hc with hc | hc
  · exact h c hc
  · exact k c hc
theorem figs_nil : Figs [] := fun c hc => by simp at hc
theorem figs_zeros (n : Nat) : Figs (List.replicate n 48) := fun c hc => by
  rw [List.eq_of_mem_replicate hc]
  decide
theorem figs_run (s : ByteArray) (i : Nat) : Figs (s.extract i (i + runAt s i)).data.toList := by
  intro c hc
  rw [Lib.extract_data, Nat.add_sub_cancel_left] at hc
  obtain ⟨j, hj, rfl⟩ := List.getElem_of_mem hc
  rw [List.getElem_take]
  rw [List.length_take] at hj
  exact runL_fig _ j (by unfold runAt at hj; omega)
/-- The exponent. -/
def powV (p : Pc) : Int := if p.down = true then -(clipL p.exponent.data.toList : Int) else (clipL p.exponent.data.toList : Int)
theorem powV_le (p : Pc) : -1048576 ≤ powV p ∧ powV p ≤ 1048576 := by
  have := clipL_le p.exponent.data.toList
  unfold powV
  split <;> omega
/-- The figures without those 0 that stand ahead; without those that stand behind. -/
def frontL (p : Pc) : List UInt8 := Lib.trimLeftB (p.whole.data.toList ++ p.rest.data.toList) 48
def bareL (p : Pc) : List UInt8 := Lib.trimRightB (frontL p) 48
def zerosZ (p : Pc) : Int := (frontL p).length - (bareL p).length - p.rest.size + powV p + 7
def sizeN (p : Pc) : Nat := valL (bareL p ++ List.replicate (zerosZ p).toNat 48)
def valV (p : Pc) : Int := if bareL p = [] then 0 else if zerosZ p < 0 ∨ 19 < (bareL p).length + zerosZ p then 0 else numV (sizeN p) p.below
def valE (p : Pc) : Int := if bareL p = [] then 0 else if zerosZ p < 0 ∨ 19 < (bareL p).length + zerosZ p then 12 else numE (sizeN p)
/-- A text's number. -/
def parseV (s : ByteArray) : Int := if 65536 < s.size then 0 else if (cutP s).length = 0 ∨ (cutP s).length < s.size then 0 else valV (cutP s)
def parseE (s : ByteArray) : Int := if 65536 < s.size then 9 else if (cutP s).length = 0 ∨ (cutP s).length < s.size then 11 else valE (cutP s)
end Go.Proofs.YtoeddhkbifeamaaDoor
