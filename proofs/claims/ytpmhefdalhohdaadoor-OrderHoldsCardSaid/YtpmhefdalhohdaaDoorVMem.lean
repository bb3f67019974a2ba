/- Values in memory: the document's (structs of six cells), the program's (behind interfaces). -/
import Derived.Test.YtpmhefdalhohdaaDoorVTree
namespace Go.Proofs.YtpmhefdalhohdaaDoor
open Go.RowKit
set_option linter.unusedVariables false

/-- Cell i from an address on. -/
def cellAt (w : World) (A : Option Addr) (i : Nat) : Option Value := match A with | some ⟨x, o, none⟩ => w.cell? ⟨x, o + i, none⟩ | _ => none
def blockOf (A : Option Addr) : Option Nat := A.map (·.block)
theorem cellAt_some {w : World} {x o i : Nat} : cellAt w (some ⟨x, o, none⟩) i = w.cell? ⟨x, o + i, none⟩ := rfl
theorem cellAt_inv {w : World} {A : Option Addr} {i : Nat} {v : Value} (h : cellAt w A i = some v) : ∃ x o, A = some ⟨x, o, none⟩ := by
  unfold cellAt at h
  split at h
  · exact ⟨_, _, rfl⟩
  · cases h
theorem cell_lt {w : World} {a : Addr} {v : Value} (h : w.cell? a = some v) : a.block < w.heap.size := by
  rcases Nat.lt_or_ge a.block w.heap.size with hlt | hge
  · exact hlt
  · rw [World.cell?, Array.getElem?_eq_none hge] at h
    cases h
/-- What was readable is as it was. -/
def KeepC (w w' : World) : Prop := ∀ a v, w.cell? a = some v → w'.cell? a = some v
theorem KeepC.refl (w : World) : KeepC w w := fun _ _ h => h
theorem KeepC.trans {a b c : World} (h : KeepC a b) (k : KeepC b c) : KeepC a c := fun p v e => k p v (h p v e)
theorem KeepC.below {w w' : World} (h : Below w.heap.size w w') : KeepC w w' := fun a v e => by
  rw [World.cell?_of_block (w := w) (a := a) (h.block a.block (cell_lt e))]
  exact e
theorem KeepC.at {w w' : World} (h : KeepC w w') {A : Option Addr} {i : Nat} {v : Value} (e : cellAt w A i = some v) : cellAt w' A i = some v := by
  obtain ⟨x, o, rfl⟩ := cellAt_inv e
  exact h _ _ e

/-- The six cells of a value of the document's. -/
def vCells (k : Int) (b : Bool) (n : Int) (s : ByteArray) (A : Option Addr) (m c : Nat) (B : Option Addr) (q d : Nat) : Array Value :=
  #[.int .i64 k, .bool b, .int .i64 n, .string s, .slice A m c, .slice B q d]
def In64 (a : Int) : Prop := -9223372036854775808 ≤ a ∧ a ≤ 9223372036854775807
def InV (w : World) : VT → Array Value → Prop
  | .no, _ => False
  | .mk k b n s m f q g, cs => ∃ A c B d, cs = vCells k b n s A m c B q d ∧ In64 k ∧ In64 n ∧ s.size ≤ 9223372036854775807 ∧ m ≤ c ∧ c ≤ 9223372036854775807 ∧ q ≤ d ∧ d ≤ 9223372036854775807 ∧
      (∀ i, i < m → ∃ ds, InV w (f i) ds ∧ ∀ j (h : j < ds.size), cellAt w A (6 * i + j) = some ds[j]) ∧ ∀ i, i < q → cellAt w B i = some (.string (g i)) ∧ (g i).size ≤ 9223372036854775807
theorem InV.size {w : World} {t : VT} {cs : Array Value} (h : InV w t cs) : cs.size = 6 := by
  rcases t with _ | ⟨k, b, n, s, m, f, q, g⟩
  · exact h.elim
  obtain ⟨A, c, B, d, rfl, _⟩ := h
  rfl
theorem InV.keep {w w' : World} (hk : KeepC w w') : ∀ {t : VT} {cs : Array Value}, InV w t cs → InV w' t cs
  | .no, _, h => h.elim
  | .mk k b n s m f q g, cs, h => by
    obtain ⟨A, c, B, d, e, h1, h2, h3, h4, h5, h6, h7, h8, h9⟩ := h
    refine ⟨A, c, B, d, e, h1, h2, h3, h4, h5, h6, h7, fun i hi => ?_, fun i hi => ⟨hk.at (h9 i hi).1, (h9 i hi).2⟩⟩
    obtain ⟨ds, a1, a2⟩ := h8 i hi
    exact ⟨ds, InV.keep hk a1, fun j hj => hk.at (a2 j hj)⟩
/-- An item's six cells, as the walk spells their places. -/
theorem item_at {w wr : World} {A : Option Addr} {m : Nat} {f : Nat → VT} (hit : ∀ i, i < m → ∃ ds, InV w (f i) ds ∧ ∀ j (h : j < ds.size), cellAt w A (6 * i + j) = some ds[j]) (hk : KeepC w wr) {j : Nat} (hj : j < m) :
    ∃ xb o kj bj nj sj Aj mj cj Bj qj dj, A = some ⟨xb, o, none⟩ ∧ InV wr (f j) #[.int .i64 kj, .bool bj, .int .i64 nj, .string sj, .slice Aj mj cj, .slice Bj qj dj] ∧
      wr.cell? ⟨xb, o + j * 6, none⟩ = some (.int .i64 kj) ∧ wr.cell? ⟨xb, o + j * 6 + 1, none⟩ = some (.bool bj) ∧ wr.cell? ⟨xb, o + j * 6 + 2, none⟩ = some (.int .i64 nj) ∧ wr.cell? ⟨xb, o + j * 6 + 3, none⟩ = some (.string sj) ∧
      wr.cell? ⟨xb, o + j * 6 + 4, none⟩ = some (.slice Aj mj cj) ∧ wr.cell? ⟨xb, o + j * 6 + 5, none⟩ = some (.slice Bj qj dj) := by
  obtain ⟨ds, i1, i2⟩ := hit j hj
  obtain ⟨tj, htj⟩ : ∃ t, t = f j := ⟨_, rfl⟩
  rw [← htj] at i1 ⊢
  rcases tj with _ | ⟨kj, bj, nj, sj, mj, fj, qj, gj⟩
  · exact i1.elim
  have i1' := i1
  obtain ⟨Aj, cj, Bj, dj, rfl, _⟩ := i1
  obtain ⟨xb, o, rfl⟩ := cellAt_inv (i2 0 (by simp [vCells]))
  refine ⟨xb, o, kj, bj, nj, sj, Aj, mj, cj, Bj, qj, dj, rfl, InV.keep hk i1', ?_, ?_, ?_, ?_, ?_, ?_⟩
  · have := hk.at (i2 0 (by simp [vCells])); rw [Nat.mul_comm j 6]; exact this
  · have := hk.at (i2 1 (by simp [vCells])); rw [Nat.mul_comm j 6, Nat.add_assoc]; exact this
  · have := hk.at (i2 2 (by simp [vCells])); rw [Nat.mul_comm j 6, Nat.add_assoc]; exact this
  · have := hk.at (i2 3 (by simp [vCells])); rw [Nat.mul_comm j 6, Nat.add_assoc]; exact this
  · have := hk.at (i2 4 (by simp [vCells])); rw [Nat.mul_comm j 6, Nat.add_assoc]; exact this
  · have := hk.at (i2 5 (by simp [vCells])); rw [Nat.mul_comm j 6, Nat.add_assoc]; exact this
theorem name_at {w wr : World} {B : Option Addr} {q : Nat} {g : Nat → ByteArray} (hnm : ∀ i, i < q → cellAt w B i = some (.string (g i)) ∧ (g i).size ≤ 9223372036854775807) (hk : KeepC w wr) {j : Nat} (hj : j < q) :
    ∃ xb o, B = some ⟨xb, o, none⟩ ∧ wr.cell? ⟨xb, o + j, none⟩ = some (.string (g j)) ∧ (g j).size ≤ 9223372036854775807 := by
  obtain ⟨h1, h2⟩ := hnm j hj
  obtain ⟨xb, o, rfl⟩ := cellAt_inv h1
  exact ⟨xb, o, rfl, hk.at h1, h2⟩
/-- A struct of six cells that was just boxed: what its cells hold later. -/
theorem boxed {w wr W1 : World} {c0 c1 c2 c3 c4 c5 : Value} {T : TypeId} (h : W1 = w.alloc (.cells #[c0, c1, c2, c3, c4, c5] T)) (hb : Below W1.heap.size W1 wr) :
    wr.cell? ⟨w.heap.size, 0, none⟩ = some c0 ∧ wr.cell? ⟨w.heap.size, 1, none⟩ = some c1 ∧ wr.cell? ⟨w.heap.size, 2, none⟩ = some c2 ∧ wr.cell? ⟨w.heap.size, 3, none⟩ = some c3 ∧ wr.cell? ⟨w.heap.size, 4, none⟩ = some c4 ∧ wr.cell? ⟨w.heap.size, 5, none⟩ = some c5 ∧
      Below w.heap.size w wr ∧ KeepC w wr := by
  have hz : W1.heap.size = w.heap.size + 1 := by rw [h]; simp
  have hl : Below w.heap.size w W1 := by rw [h]; exact (Below.refl w.heap.size w).alloc (Nat.le_refl _) _
  have hl2 := hl.trans (hb.mono (by omega))
  refine ⟨?_, ?_, ?_, ?_, ?_, ?_, hl2, KeepC.below hl2⟩
  · exact (hb.cell (p := ⟨w.heap.size, 0, none⟩) (by rw [hz]; simp)).trans (by rw [h]; simp)
  · exact (hb.cell (p := ⟨w.heap.size, 1, none⟩) (by rw [hz]; simp)).trans (by rw [h]; simp)
  · exact (hb.cell (p := ⟨w.heap.size, 2, none⟩) (by rw [hz]; simp)).trans (by rw [h]; simp)
  · exact (hb.cell (p := ⟨w.heap.size, 3, none⟩) (by rw [hz]; simp)).trans (by rw [h]; simp)
  · exact (hb.cell (p := ⟨w.heap.size, 4, none⟩) (by rw [hz]; simp)).trans (by rw [h]; simp)
  · exact (hb.cell (p := ⟨w.heap.size, 5, none⟩) (by rw [hz]; simp)).trans (by rw [h]; simp)
/-- v is the program's value for a tree, all its memory among some blocks. -/
def HasJ (w : World) (S : Nat → Prop) : VT → Value → Prop
  | .no, _ => False
  | .mk k b n s m f _ g, v =>
    (k = 0 ∧ v = .nilIface) ∨ (k = 1 ∧ v = .iface 4 (.bool b)) ∨ (k = 2 ∧ v = .iface 54 (.int .i64 n) ∧ In64 n) ∨ (k = 3 ∧ v = .iface 9 (.string s) ∧ s.size ≤ 140737488351232) ∨
    (k = 4 ∧ ∃ A c, v = .iface 50 (.slice A m c) ∧ m ≤ c ∧ c ≤ 9223372036854775807 ∧ (∀ x, blockOf A = some x → 0 < m → S x) ∧ ∀ i, i < m → ∃ u, HasJ w S (f i) u ∧ cellAt w A i = some u) ∨
    (k = 5 ∧ ∃ A c, v = .iface 56 (.slice A m c) ∧ m ≤ c ∧ c ≤ 9223372036854775807 ∧ (∀ x, blockOf A = some x → 0 < m → S x) ∧ ∀ i, i < m → (g i).size ≤ 140737488351232 ∧ cellAt w A (2 * i) = some (.string (g i)) ∧ ∃ u, HasJ w S (f i) u ∧ cellAt w A (2 * i + 1) = some u) ∨
    ((k < 0 ∨ 5 < k) ∧ v = .iface 3 (.int .i64 k) ∧ In64 k)
theorem HasJ.keep {w w' : World} {S S' : Nat → Prop} (hk : ∀ x, S x → w'.heap[x]? = w.heap[x]? ∧ S' x) : ∀ {t : VT} {v : Value}, HasJ w S t v → HasJ w' S' t v
  | .no, _, h => h.elim
  | .mk k b n s m f q g, v, h => by
    have ca : ∀ {A : Option Addr} {i : Nat} {u : Value}, (∀ x, blockOf A = some x → S x) → cellAt w A i = some u → cellAt w' A i = some u := fun {A i u} hS e => by
      obtain ⟨x, o, rfl⟩ := cellAt_inv e
      exact (World.cell?_of_block (w := w) (a := ⟨x, o + i, none⟩) (hk x (hS x rfl)).1).trans e
    rcases h with h | h | h | h | ⟨h1, A, c, h2, h3, h4, h5, h6⟩ | ⟨h1, A, c, h2, h3, h4, h5, h6⟩ | h
    · exact .inl h
    · exact .inr (.inl h)
    · exact .inr (.inr (.inl h))
    · exact .inr (.inr (.inr (.inl h)))
    · refine .inr (.inr (.inr (.inr (.inl ⟨h1, A, c, h2, h3, h4, fun x hx hm => (hk x (h5 x hx hm)).2, fun i hi => ?_⟩))))
      obtain ⟨u, a1, a2⟩ := h6 i hi
      exact ⟨u, HasJ.keep hk a1, ca (fun x hx => h5 x hx (by omega)) a2⟩
    · refine .inr (.inr (.inr (.inr (.inr (.inl ⟨h1, A, c, h2, h3, h4, fun x hx hm => (hk x (h5 x hx hm)).2, fun i hi => ?_⟩)))))
      obtain ⟨a0, a1, u, a2, a3⟩ := h6 i hi
      exact ⟨a0, ca (fun x hx => h5 x hx (by omega)) a1, u, HasJ.keep hk a2, ca (fun x hx => h5 x hx (by omega)) a3⟩
    · exact .inr (.inr (.inr (.inr (.inr (.inr h)))))
theorem HasJ.below {w w' : World} {S : Nat → Prop} {B : Nat} {t : VT} {v : Value} (h : HasJ w S t v) (hS : ∀ x, S x → x < B) (hb : Below B w w') : HasJ w' S t v :=
  h.keep fun x hx => ⟨hb.block x (hS x hx), hx⟩
theorem HasJ.mono {w : World} {S S' : Nat → Prop} {t : VT} {v : Value} (h : HasJ w S t v) (hS : ∀ x, S x → S' x) : HasJ w S' t v := h.keep fun x hx => ⟨rfl, hS x hx⟩
theorem HasJ.one {w : World} {S : Nat → Prop} {t : VT} {v : Value} (h : HasJ w S t v) : v.oneCell' = true := by
  rcases t with _ | ⟨k, b, n, s, m, f, q, g⟩
  · exact h.elim
  rcases h with ⟨_, rfl⟩ | ⟨_, rfl⟩ | ⟨_, rfl, _⟩ | ⟨_, rfl, _⟩ | ⟨_, _, _, rfl, _⟩ | ⟨_, _, _, rfl, _⟩ | ⟨_, rfl, _⟩ <;> rfl
theorem HasJ.two {w : World} {S : Nat → Prop} {t : VT} {v : Value} (h : HasJ w S t v) : v = .nilIface ∨ ∃ T x, v = .iface T x := by
  rcases t with _ | ⟨k, b, n, s, m, f, q, g⟩
  · exact h.elim
  rcases h with ⟨_, rfl⟩ | ⟨_, rfl⟩ | ⟨_, rfl, _⟩ | ⟨_, rfl, _⟩ | ⟨_, _, _, rfl, _⟩ | ⟨_, _, _, rfl, _⟩ | ⟨_, rfl, _⟩
  · exact .inl rfl
  all_goals exact .inr ⟨_, _, rfl⟩
theorem HasJ.nil_of {w : World} {S : Nat → Prop} {t : VT} {v : Value} (h : HasJ w S t v) (h0 : t.k = 0) : v = .nilIface := by
  rcases t with _ | ⟨k, b, n, s, m, f, q, g⟩
  · exact h.elim
  have h0 : k = 0 := h0
  rcases h with ⟨_, rfl⟩ | ⟨_, rfl⟩ | ⟨_, rfl, _⟩ | ⟨_, rfl, _⟩ | ⟨_, _, _, rfl, _⟩ | ⟨_, _, _, rfl, _⟩ | ⟨_, rfl, _⟩
  · rfl
  all_goals omega
theorem HasJ.iface_of {w : World} {S : Nat → Prop} {t : VT} {v : Value} (h : HasJ w S t v) (h0 : t.k ≠ 0) : ∃ T x, v = .iface T x := by
  rcases t with _ | ⟨k, b, n, s, m, f, q, g⟩
  · exact h.elim
  have h0 : k ≠ 0 := h0
  rcases h with ⟨_, rfl⟩ | ⟨_, rfl⟩ | ⟨_, rfl, _⟩ | ⟨_, rfl, _⟩ | ⟨_, _, _, rfl, _⟩ | ⟨_, _, _, rfl, _⟩ | ⟨_, rfl, _⟩
  · omega
  all_goals exact ⟨_, _, rfl⟩
end Go.Proofs.YtpmhefdalhohdaaDoor
