/- unpacked. -/
import Derived.Test.YthpfaaindkkpcaaBCatch
import Derived.Test.YthpfaaindkkpcaaBOf
namespace Go.Proofs.Ythpfaaindkkpcaa
open Go.RowKit Go.Maps
set_option linter.unusedVariables false
set_option linter.unusedSimpArgs false

/-- k postings read, and what is left. -/
def pstsL : Nat → Int → List Nat → Option (List (Int × Int × List Int) × List Nat)
  | 0, _, xs => some ([], xs)
  | k + 1, row, xs => match postL row xs with
    | none => none
    | some (p, r) => (pstsL k p.1 r).map fun q => (p :: q.1, q.2)
/-- The list of bytes. -/
def unpL (xs : List Nat) : Option (List (Int × Int × List Int)) :=
  match rdL 64 0 xs with
  | none => none
  | some (n, r) => match pstsL n (-1) r with
    | none => none
    | some (l, r') => if r' = [] then some l else none
theorem mkFunc (fn : Fn) (first cap : Array Value) (w : World) : (Instr.makeFunc fn first cap).run Try.prog w = .ok (.func fn first cap) w := rfl
/-- The world in which the reading begins. -/
abbrev W0 (w : World) (A : Option Addr) (n c : Nat) : World := ((w.alloc (.cells #[.slice none 0 0] 23)).alloc (.cells #[.int .i64 0] 24)).alloc (.cells #[.slice A n c] 57)
theorem w0_rd {w : World} {A : Option Addr} {c : Nat} {xs : List Nat} (h : RB w w.heap.size A xs) (hl : xs.length ≤ c) : Rd (W0 w A xs.length c) (w.heap.size + 1 + 1) xs := by
  have e : ((w.alloc (.cells #[.slice none 0 0] 23)).alloc (.cells #[.int .i64 0] 24)).heap.size = w.heap.size + 1 + 1 := by simp
  have h1 := heap_alloc_new ((w.alloc (.cells #[.slice none 0 0] 23)).alloc (.cells #[.int .i64 0] 24)) (.cells #[.slice A xs.length c] 57)
  rw [e] at h1
  have hb : Below w.heap.size w (W0 w A xs.length c) := (((Below.refl _ _).alloc (Nat.le_refl _) _).alloc (by simp) _).alloc (by rw [e]; omega) _
  refine ⟨A, c, h1, hl, h.1, h.2.1, fun hn => ?_⟩
  obtain ⟨b, o, rfl, hlt, hc⟩ := h.2.2 hn
  exact ⟨b, o, rfl, by omega, fun i x hx => (hb.cell (p := ⟨b, o + i, none⟩) hlt).trans (hc i x hx)⟩
/-- unpacked's two results' variables. -/
def LE (w : World) (L : Nat) (v : Value) (e0 : Int) : Prop := w.heap[L]? = some (.cells #[v] 23) ∧ w.heap[L + 1]? = some (.cells #[.int .i64 e0] 24)
theorem LE.c {w : World} {L : Nat} {v : Value} {e0 : Int} (h : LE w L v e0) : w.cell? ⟨L, 0, none⟩ = some v ∧ w.cell? ⟨L + 1, 0, none⟩ = some (.int .i64 e0) ∧ w.frozen? ⟨L, 0, none⟩ = false ∧ w.frozen? ⟨L + 1, 0, none⟩ = false := by
  refine ⟨by simpa using cell_of_row w L 0 #[v] _ _ h.1, by simpa using cell_of_row w (L + 1) 0 #[.int .i64 e0] _ _ h.2, ?_, ?_⟩
  · have h' := h.1
    unfold World.frozen?
    simp [h']
  · have h' := h.2
    unfold World.frozen?
    simp [h']
theorem w0_le (w : World) (A : Option Addr) (n c : Nat) : LE (W0 w A n c) w.heap.size (.slice none 0 0) 0 := by
  constructor
  · exact (Below.heap_alloc _ _ _ (by simp; omega)).trans ((Below.heap_alloc _ _ _ (by simp)).trans (heap_alloc_new w _))
  · have h1 := heap_alloc_new (w.alloc (.cells #[.slice none 0 0] 23)) (.cells #[.int .i64 0] 24)
    rw [World.size_alloc] at h1
    exact (Below.heap_alloc _ _ _ (by simp)).trans h1
theorem LE.keep {w w' : World} {L Bx : Nat} {v : Value} {e0 : Int} (h : LE w L v e0) (k : Kp Bx w w') (hb : L + 1 < Bx) : LE w' L v e0 :=
  ⟨(k.1.block L (by omega)).trans h.1, (k.1.block (L + 1) hb).trans h.2⟩
theorem le_nil {w : World} {L : Nat} {v : Value} {e0 : Int} (h : LE w L v e0) : LE ((w.setCell ⟨L, 0, none⟩ (.slice none 0 0)).setCell ⟨L + 1, 0, none⟩ (.int .i64 5)).drew L (.slice none 0 0) 5 := by
  obtain ⟨h1, h2⟩ := h
  constructor
  · show ((w.setCell ⟨L, 0, none⟩ (.slice none 0 0)).setCell ⟨L + 1, 0, none⟩ (.int .i64 5)).heap[L]? = _
    rw [Below.heap_setCell _ _ _ _ (by show L ≠ L + 1; omega)]
    simp [World.setCell, Array.getElem?_modify, h1]
  · show ((w.setCell ⟨L, 0, none⟩ (.slice none 0 0)).setCell ⟨L + 1, 0, none⟩ (.int .i64 5)).heap[L + 1]? = _
    have e : (w.setCell ⟨L, 0, none⟩ (.slice none 0 0)).heap[L + 1]? = _ := (Below.heap_setCell _ _ _ _ (by show L + 1 ≠ L; omega)).trans h2
    generalize w.setCell ⟨L, 0, none⟩ (.slice none 0 0) = w2 at e ⊢
    simp [World.setCell, Array.getElem?_modify, e]
set_option maxRecDepth 100000 in
set_option maxHeartbeats 8000000 in
theorem unpacked_no1 (A : Option Addr) (c : Nat) (xs : List Nat) (w : World) (h : RB w w.heap.size A xs) (hl : xs.length ≤ c) (h0 : rdL 64 0 xs = none) :
    Calls Try.prog 13 #[.slice A xs.length c] w fun e w' => e = .returned (.tuple #[.slice none 0 0, .int .i64 5]) ∧ Below w.heap.size w w' := by
  have hmf := mkFunc
  have HN : Hid (Calls Try.prog 22 #[.pointer (some ⟨w.heap.size + 1 + 1, 0, none⟩), .int .i64 64] (W0 w A xs.length c) fun e w' => e = .panicked [faultP] ∧ Kp (w.heap.size + 1 + 1) (W0 w A xs.length c) w') :=
    Lib.hid ((number_any2 (w.heap.size + 1 + 1) 64 (by omega) xs _ (w0_rd h hl)).mono fun e w' z => by
      rcases z with ⟨a, r, z1, _⟩ | ⟨_, z2⟩
      · rw [h0] at z1; cases z1
      · exact z2)
  clear h hl h0
  generalize xs.length = n at *
  go_enter_defers Try.func13, Try.ntmps13
  go_wp2_with (first
    | (go_at_call 22; (with_reducible refine HN.out.mono ?_); rintro e w1 ⟨rfl, hk⟩; have K1 := Lib.hid hk; clear hk))
  have hle := (w0_le w A n c).keep K1.out (by omega)
  have HL := Lib.hid hle
  have l1 : Below w.heap.size w w1 := ((((Below.refl _ _).alloc (Nat.le_refl _) _).alloc (by simp) _).alloc (by simp; omega) _).trans (K1.out.1.mono (by omega))
  have L1 := Lib.hid l1
  clear hle l1
  refine leaves_cons (f := 21) (args := #[.pointer (some ⟨w.heap.size, 0, none⟩), .pointer (some ⟨w.heap.size + 1, 0, none⟩)]) (by simp) (by simp [go_sem]) ?_
  refine (catch_panicking w.heap.size (w.heap.size + 1) [] w1 _ _ HL.out.c.1 HL.out.c.2.1 HL.out.c.2.2.1 HL.out.c.2.2.2 (by omega)).mono ?_
  rintro e u' w'' ⟨rfl, rfl, rfl⟩
  have h9 := (le_nil HL.out).c
  have L2 : Hid (Below w.heap.size w ((w1.setCell ⟨w.heap.size, 0, none⟩ (.slice none 0 0)).setCell ⟨w.heap.size + 1, 0, none⟩ (.int .i64 5)).drew) := Lib.hid (((L1.out.setCell (p := ⟨w.heap.size, 0, none⟩) (Nat.le_refl _) _).setCell (p := ⟨w.heap.size + 1, 0, none⟩) (by show w.heap.size ≤ w.heap.size + 1; omega) _).drew)
  generalize ((w1.setCell ⟨w.heap.size, 0, none⟩ (.slice none 0 0)).setCell ⟨w.heap.size + 1, 0, none⟩ (.int .i64 5)).drew = W9 at h9 L2 ⊢
  obtain ⟨y1, y2, _, _⟩ := h9
  simp [Leaves, settle, results, Try.results13, go_sem, y1, y2]
  exact L2.out
end Go.Proofs.Ythpfaaindkkpcaa
