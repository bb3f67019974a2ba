/- hash: what the sort leaves in memory. -/
import Derived.Test.YtihigingddaopaaDoorHJoin
namespace Go.Proofs.YtihigingddaopaaDoor
open Go.RowKit
set_option linter.unusedVariables false
set_option linter.unusedSimpArgs false

open Go.Shelf Go.Lib Go.Sort
theorem holds_of_own {W : World} {base n g cap : Nat} {S : List Rg} (hn : S.length = n) (h : W.ownsRow base 30 2 (.slice (some ⟨g, 0, none⟩) n cap) n (rowR S)) : HoldsK encC 2 W g 0 S.toArray ∧ g < W.heap.size := by
  refine ⟨fun j hj => ?_, (h.lt g rfl).2⟩
  have hj2 : j < S.length * 2 := by simpa using hj
  have hi : j / 2 < S.length := by omega
  have e1 := World.ownsRow.cellAt (w := W) (base := base) (e := 30) (size := 2) h j (by omega)
  have e2 := rowR_at S (j / 2) (S[j / 2]'hi) (List.getElem?_eq_getElem hi) (j % 2) (Nat.mod_lt _ (by omega))
  rw [show j / 2 * 2 + j % 2 = j by omega] at e2
  refine ⟨?_, own_fz h _⟩
  rw [Nat.zero_add, e1, e2, get_flatK _ _ _ _ (by simpa using hj2)]
  have e3 : (S.toArray)[j / 2]! = S[j / 2]'hi := by simp [hi]
  rw [e3]
  have hm : j % 2 = 0 ∨ j % 2 = 1 := by omega
  rcases hm with h0 | h0 <;> rw [h0] <;> rfl
theorem rd_of_holds {W : World} {g : Nat} {d : Array Rg} (h : HoldsK encC 2 W g 0 d) : RdG W g 0 d.toList := fun i r hr => by
  obtain ⟨hi, he⟩ := List.getElem?_eq_some_iff.1 hr
  have hi' : i < d.size := by simpa using hi
  have hd : d[i]! = r := by rw [getElem!_pos d i hi']; simpa using he
  have c : ∀ j, j < 2 → W.cell? ⟨g, 0 + i * 2 + j, none⟩ = (encC r)[j]? := fun j hj => by
    have h1 := (h (i * 2 + j) (by simp; omega)).1
    rw [get_flatK _ _ _ _ (by omega), show (i * 2 + j) / 2 = i by omega, show (i * 2 + j) % 2 = j by omega, hd] at h1
    rw [show 0 + i * 2 + j = 0 + (i * 2 + j) by omega, h1]
    have hm : j = 0 ∨ j = 1 := by omega
    rcases hm with rfl | rfl <;> rfl
  exact ⟨c 0 (by omega), c 1 (by omega)⟩
theorem sort_block (W : World) (g n : Nat) (d : Array Rg) (os : Array Obj) (i : Nat) (hi : i < W.heap.size) (hne : i ≠ g) : (sortWorldK encC 2 W g 0 n d os).heap[i]? = W.heap[i]? := by
  unfold sortWorldK grow putRowK putRow mapBlock Go.Sort.ahead
  dsimp only
  rw [Array.getElem?_append_left (by simpa using hi), Array.getElem?_modify, if_neg (fun e => hne e.symm)]
theorem sort_below {B : Nat} {w0 W : World} (h : Below B w0 W) {g n : Nat} (hg : B ≤ g) (hB : B ≤ W.heap.size) (d : Array Rg) (os : Array Obj) : Below B w0 (sortWorldK encC 2 W g 0 n d os) :=
  h.trans ⟨rfl, rfl, rfl, size_sortWorldK_c _ _ _ _ _ _ _ _, fun i hi => sort_block W g n d os i (by omega) (by omega)⟩
theorem sorted_out {S : List Rg} {d' : Array Rg} (hp : PermIn 0 S.toArray.size S.toArray d') (hs : SortedIn (ltOf cfR) 0 S.toArray.size d') : d'.toList.Perm S ∧ d'.toList.Pairwise (fun a b => ¬ b.1 < a.1) ∧ d'.size = S.length := by
  obtain ⟨h1, _, h3⟩ := hp
  have hsz : d'.size = S.length := by simpa using h1
  have e1 : d'.extract 0 S.toArray.size = d' := by rw [← h1]; simp
  have e2 : S.toArray.extract 0 S.toArray.size = S.toArray := by simp
  rw [e1, e2] at h3
  refine ⟨by simpa using h3, ?_, hsz⟩
  rw [List.pairwise_iff_getElem]
  intro i j hi hj hij
  have hi' : i < d'.size := by simpa using hi
  have hj' : j < d'.size := by simpa using hj
  have := hs i j (Nat.zero_le _) hij (by simpa using (by omega : j < S.length))
  rw [ltR, getElem!_pos d' j hj', getElem!_pos d' i hi'] at this
  simpa using this
theorem sorted_out' {S : List Rg} {d' : Array Rg} {n : Nat} (hn : S.length = n) (hp : PermIn 0 n S.toArray d') (hs : SortedIn (ltOf cfR) 0 n d') : d'.toList.Perm S ∧ d'.toList.Pairwise (fun a b => ¬ b.1 < a.1) ∧ d'.size = n := by
  subst hn
  exact sorted_out (by simpa using hp) (by simpa using hs)
end Go.Proofs.YtihigingddaopaaDoor
