/- Words on memory: a block of bytes that the call made; what only one block's change leaves. -/
import Derived.Test.YtmeijienfdefjaaProg
import Derived.WalkKit
import Derived.WalkSpells
import Derived.WalkLawsBesides
import Derived.Lib.Hide
import Derived.Deep.OwnRows
import Derived.Deep.Draws
import Derived.OwnWalk
import Derived.Maps.AppendAt
namespace Go.Proofs.Ytmeijienfdefjaa
open Go.RowKit

/-- A slice of bytes that can be read: byte i is F i. -/
def Bytes (w : World) (A : Option Addr) (n : Nat) (F : Nat → Nat) : Prop :=
  n ≤ 9223372036854775807 ∧ (∀ i, i < n → F i < 256) ∧ (0 < n → ∃ b o, A = some ⟨b, o, none⟩ ∧ ∀ i, i < n → w.cell? ⟨b, o + i, none⟩ = some (.int .u8 (F i)))


/-- Block g is n bytes, byte i is F i. -/
def BRow (w : World) (g n : Nat) (F : Nat → Nat) : Prop := w.rowIs g 5 n (fun i => .int .u8 (F i)) ∧ (∀ i, i < n → F i < 256) ∧ n ≤ 9223372036854775807

section
variable {w w' a : World} {g n : Nat} {F G : Nat → Nat}
theorem BRow.cell (h : BRow w g n F) {i : Nat} (hi : i < n) : w.cell? ⟨g, i, none⟩ = some (.int .u8 (F i)) := h.1.cell hi
theorem BRow.frozen (h : BRow w g n F) (i : Nat) : w.frozen? ⟨g, i, none⟩ = false := h.1.frozen i
theorem BRow.lt (h : BRow w g n F) : g < w.heap.size := h.1.lt
theorem BRow.congr (h : BRow w g n F) (e : ∀ i, i < n → F i = G i) : BRow w g n G :=
  ⟨h.1.congr fun i hi => by rw [e i hi], fun i hi => by rw [← e i hi]; exact h.2.1 i hi, h.2.2⟩
theorem BRow.of_block (h : BRow w g n F) (e : w'.heap[g]? = w.heap[g]?) : BRow w' g n F := ⟨h.1.of_block e, h.2⟩
theorem BRow.set_ (h : BRow w g n F) (i v : Nat) (hv : v < 256) : BRow (w.setCell ⟨g, i, none⟩ (.int .u8 v)) g n (fun j => if j = i then v else F j) := by
  refine ⟨(h.1.set i (.int .u8 v)).congr fun j _ => ?_, fun j hj => ?_, h.2.2⟩
  · by_cases e : j = i <;> simp [e]
  · show (if j = i then v else F j) < 256
    split
    · exact hv
    · exact h.2.1 j hj
theorem BRow.bytes (h : BRow w g n F) {o m : Nat} (hm : o + m ≤ n) : Bytes w (some ⟨g, o, none⟩) m (fun i => F (o + i)) :=
  ⟨by have := h.2.2; omega, fun i hi => h.2.1 _ (by omega), fun _ => ⟨g, o, rfl, fun i hi => h.cell (by omega)⟩⟩
theorem BRow.alloc (h : BRow w g n F) (o : Obj) : BRow (w.alloc o) g n F := ⟨h.1.alloc o, h.2⟩
theorem BRow.drewN (h : BRow w g n F) (k : Nat) : BRow (w.drewN k) g n F := h
theorem BRow.below {B : Nat} (h : BRow w g n F) (hb : Below B w w') (hg : g < B) : BRow w' g n F := h.of_block (hb.block g hg)
theorem BRow.other (h : BRow w g n F) {r : Option Nat} (hb : w.grownBy w' r) (hr : some g ≠ r) : BRow w' g n F := h.of_block (hb.block g h.lt hr)

/-- A store turns its own block alone; a draw none. -/
theorem grown_store (w : World) (p : Addr) (u : Value) : w.grownBy (w.setCell p u) (some p.block) where
  os := rfl
  tape := rfl
  output := rfl
  size := by simp [World.setCell]
  block k _ hk := Below.heap_setCell w p u k fun e => hk (e ▸ rfl)
theorem grown_draws (w : World) (k : Nat) (r : Option Nat) : w.grownBy (w.drewN k) r where
  os := rfl
  tape := rfl
  output := rfl
  size := Nat.le_refl _
  block _ _ _ := rfl
theorem grown_below {r : Option Nat} (h : Below w.heap.size w w') : w.grownBy w' r where
  os := h.os
  tape := h.tape
  output := h.output
  size := h.size
  block k hk _ := h.block k hk
theorem Bytes.keep {A : Option Addr} (h : Bytes w A n F) (k : ∀ b o, A = some ⟨b, o, none⟩ → 0 < n → w'.heap[b]? = w.heap[b]?) : Bytes w' A n F :=
  ⟨h.1, h.2.1, fun hn => by
    obtain ⟨b, o, rfl, hc⟩ := h.2.2 hn
    exact ⟨b, o, rfl, fun i hi => (World.cell?_of_block (w := w) (a := ⟨b, o + i, none⟩) (k b o rfl hn)).trans (hc i hi)⟩⟩
theorem Bytes.blk {A : Option Addr} (h : Bytes w A n F) : ∀ b o, A = some ⟨b, o, none⟩ → 0 < n → b < w.heap.size := by
  rintro b o rfl hn
  obtain ⟨b', o', e, hc⟩ := h.2.2 hn
  injection e with e
  injection e with e1 e2
  subst e1
  have := hc 0 hn
  rcases Nat.lt_or_ge b w.heap.size with hlt | hge
  · exact hlt
  · rw [World.cell?, Array.getElem?_eq_none hge] at this
    cases this
theorem Bytes.below {A : Option Addr} {B : Nat} (h : Bytes w A n F) (hb : Below B w w') (hB : w.heap.size ≤ B) : Bytes w' A n F :=
  h.keep fun b o e hn => hb.block b (by have := h.blk b o e hn; omega)
theorem Bytes.congr {A : Option Addr} (h : Bytes w A n F) (e : ∀ i, i < n → F i = G i) : Bytes w A n G :=
  ⟨h.1, fun i hi => by rw [← e i hi]; exact h.2.1 i hi, fun hn => by
    obtain ⟨b, o, rfl, hc⟩ := h.2.2 hn
    exact ⟨b, o, rfl, fun i hi => by rw [← e i hi]; exact hc i hi⟩⟩
end
theorem Bytes.cut {w : World} {b o n : Nat} {F : Nat → Nat} (h : Bytes w (some ⟨b, o, none⟩) n F) (k m : Nat) (hk : k + m ≤ n) : Bytes w (some ⟨b, o + k, none⟩) m (fun i => F (k + i)) := by
  refine ⟨by have := h.1; omega, fun i hi => h.2.1 _ (by omega), fun hm => ?_⟩
  obtain ⟨b', o', e, hc⟩ := h.2.2 (by omega)
  injection e with e
  injection e with e1 e2
  subst e1 e2
  exact ⟨b, o + k, rfl, fun i hi => by rw [Nat.add_assoc]; exact hc _ (by omega)⟩
theorem Bytes.head {w : World} {A : Option Addr} {n : Nat} {F : Nat → Nat} (h : Bytes w A n F) (m : Nat) (hk : m ≤ n) : Bytes w A m F :=
  ⟨by have := h.1; omega, fun i hi => h.2.1 _ (by omega), fun hm => by
    obtain ⟨b', o', e, hc⟩ := h.2.2 (by omega)
    exact ⟨b', o', e, fun i hi => hc _ (by omega)⟩⟩

theorem none_bytes (w : World) (F : Nat → Nat) : Bytes w none 0 F := ⟨by omega, fun i hi => absurd hi (by omega), fun h => absurd h (by omega)⟩

def zeroF (_ : Nat) : Nat := 0
theorem BRow.made (w : World) (n : Nat) (hn : n ≤ 9223372036854775807) : BRow (w.alloc (.cells (madeCells #[.int .u8 0] n) 5)) w.heap.size n zeroF :=
  ⟨(World.rowIs_made w (.int .u8 0) n 5).congr fun i _ => rfl, fun _ _ => by unfold zeroF; omega, hn⟩

end Go.Proofs.Ytmeijienfdefjaa
