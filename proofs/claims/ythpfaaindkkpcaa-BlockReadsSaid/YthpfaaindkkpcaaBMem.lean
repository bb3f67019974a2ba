/- block: rows of ints in memory: what came in, what the call gathers. -/
import Derived.Test.YthpfaaindkkpcaaBPlain
import Derived.Test.YthpfaaindkkpcaaProg
import Derived.WalkKit
import Derived.WalkSpells
import Derived.WalkLawsBesides
import Derived.Lib.Hide
import Derived.IntWalk
import Derived.LoopTactic
import Derived.OwnWalk
import Derived.Maps.AppendAt
import Derived.Maps.OwnSet
import Derived.Maps.OwnOps
import Derived.Laws.AppendOwnNone
import Derived.Deep.OwnRows
import Derived.Deep.Draws
import Derived.Below
namespace Go.Proofs.Ythpfaaindkkpcaa
open Go.RowKit Go.Maps
set_option linter.unusedVariables false

/-- A slice of ints that can be read. -/
def Ints (w : World) (A : Option Addr) (n : Nat) (fa : Nat → Int) : Prop :=
  n ≤ 9223372036854775807 ∧ (∀ i, i < n → -9223372036854775808 ≤ fa i ∧ fa i ≤ 9223372036854775807) ∧ (0 < n → ∃ b o, A = some ⟨b, o, none⟩ ∧ ∀ i, i < n → w.cell? ⟨b, o + i, none⟩ = some (.int .i64 (fa i)))
theorem Ints.keep {w w' : World} {A : Option Addr} {n : Nat} {fa : Nat → Int} (h : Ints w A n fa) (k : ∀ b o, A = some ⟨b, o, none⟩ → 0 < n → w'.heap[b]? = w.heap[b]?) : Ints w' A n fa :=
  ⟨h.1, h.2.1, fun hn => by
    obtain ⟨b, o, rfl, hc⟩ := h.2.2 hn
    exact ⟨b, o, rfl, fun i hi => (World.cell?_of_block (w := w) (a := ⟨b, o + i, none⟩) (k b o rfl hn)).trans (hc i hi)⟩⟩
theorem cell_in {w : World} {b o : Nat} {v : Value} (h : w.cell? ⟨b, o, none⟩ = some v) : b < w.heap.size := by
  rcases Nat.lt_or_ge b w.heap.size with hlt | hge
  · exact hlt
  · rw [World.cell?, Array.getElem?_eq_none hge] at h
    cases h
theorem Ints.blk {w : World} {A : Option Addr} {n : Nat} {fa : Nat → Int} (h : Ints w A n fa) : ∀ b o, A = some ⟨b, o, none⟩ → 0 < n → b < w.heap.size := by
  rintro b o rfl hn
  obtain ⟨b', o', e, hc⟩ := h.2.2 hn
  injection e with e
  injection e with e1 e2
  subst e1
  exact cell_in (hc 0 hn)
theorem Ints.below {w w' : World} {A : Option Addr} {n B : Nat} {fa : Nat → Int} (h : Ints w A n fa) (hb : Below B w w') (hB : w.heap.size ≤ B) : Ints w' A n fa :=
  h.keep fun b o e hn => hb.block b (by have := h.blk b o e hn; omega)
theorem Ints.at_ {w : World} {A : Option Addr} {n : Nat} {fa : Nat → Int} (h : Ints w A n fa) (hn : 0 < n) : ∃ b o, A = some ⟨b, o, none⟩ ∧ b < w.heap.size ∧ ∀ i, i < n → w.cell? ⟨b, o + i, none⟩ = some (.int .i64 (fa i)) := by
  obtain ⟨b, o, e, hc⟩ := h.2.2 hn
  exact ⟨b, o, e, h.blk b o e hn, hc⟩
theorem ret_i {k : IntKind} {a b : Int} (h : a = b) : Ending.returned (.int k a) = .returned (.int k b) := by rw [h]
theorem ret_b {a b : Bool} (h : a = b) : Ending.returned (.bool a) = .returned (.bool b) := by rw [h]
theorem bcell {W w1 : World} (hb : Below W.heap.size W w1) {b o : Nat} {v : Value} (h : W.cell? ⟨b, o, none⟩ = some v) (hlt : b < W.heap.size) : w1.cell? ⟨b, o, none⟩ = some v := (hb.cell (p := ⟨b, o, none⟩) hlt).trans h
theorem kcell {a w : World} {b o : Nat} {v : Value} {B : Nat} (hb : Below B a w) (hlt : b < B) (h : a.cell? ⟨b, o, none⟩ = some v) : w.cell? ⟨b, o, none⟩ = some v := (hb.cell (p := ⟨b, o, none⟩) hlt).trans h
theorem below_drewN (n k : Nat) (w : World) : Below n w (w.drewN k) := ⟨rfl, rfl, rfl, Nat.le_refl _, fun _ _ => rfl⟩
/-- The cells of a row of ints. -/
abbrev intsL (xs : List Int) : List Value := xs.map (Value.int .i64)
abbrev OwnI (w : World) (base : Nat) (v : Value) (xs : List Int) : Prop := w.ownsRow base 3 1 v xs.length (intsL xs)
theorem intInfo : (Try.prog.info? 3).map (fun i => (i.zero, i.size, i.bytes)) = some (some (.int .i64 0), 1, 8) := by kernel_rfl
theorem own_slice {w : World} {base : Nat} {v : Value} {xs : List Int} (h : OwnI w base v xs) : ∃ A c, v = .slice A xs.length c ∧ (xs ≠ [] → ∃ g, A = some ⟨g, 0, none⟩ ∧ base ≤ g) := by
  obtain ⟨hl, ⟨hv, h0⟩ | ⟨g, cap, cur, hv, hg, hh, r⟩⟩ := h
  · rw [h0]
    exact ⟨none, 0, hv, fun hx => absurd (List.eq_nil_of_length_eq_zero h0) hx⟩
  · exact ⟨_, _, hv, fun _ => ⟨g, rfl, hg⟩⟩
theorem own_ints {w : World} {base : Nat} {A : Option Addr} {n c : Nat} {xs : List Int} (h : OwnI w base (.slice A n c) xs) (hw : ∀ x ∈ xs, -9223372036854775808 ≤ x ∧ x ≤ 9223372036854775807) : Ints w A xs.length (fun i => xs.getD i 0) := by
  have h' := h
  obtain ⟨hl, ⟨hv, h0⟩ | ⟨g, cap, cur, hv, hg, hh, r⟩⟩ := h
  · rw [h0]
    exact ⟨by omega, fun i hi => absurd hi (by omega), fun hn => absurd hn (by omega)⟩
  · injection hv with hv1 hv2 hv3
    subst hv1 hv2 hv3
    refine ⟨by have := r.1; have := r.2.1; unfold maxLen at *; omega, fun i hi => ?_, fun hn => ⟨g, 0, rfl, fun i hi => ?_⟩⟩
    · have : xs.getD i 0 = xs[i] := by rw [List.getD_eq_getElem?_getD, List.getElem?_eq_getElem hi]; rfl
      show -9223372036854775808 ≤ xs.getD i 0 ∧ xs.getD i 0 ≤ 9223372036854775807
      rw [this]; exact hw _ (List.getElem_mem hi)
    · have hc := World.ownsRow.cellAt (w := w) (base := base) (e := 3) (size := 1) h' i (by simpa using hi)
      rw [Nat.zero_add]
      have h2 : w.cell? ⟨g, i, none⟩ = (intsL xs)[i]? := by simpa using hc
      rw [h2]
      simp [List.getElem?_map, List.getElem?_eq_getElem hi, List.getD_eq_getElem?_getD]
end Go.Proofs.Ythpfaaindkkpcaa
