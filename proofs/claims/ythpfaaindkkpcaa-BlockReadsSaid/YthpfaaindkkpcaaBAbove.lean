/- the reader: above. -/
import Derived.Test.YthpfaaindkkpcaaBRead
import Derived.Deep.RegionHeldLaw
namespace Go.Proofs.Ythpfaaindkkpcaa
open Go.RowKit Go.Maps
set_option linter.unusedVariables false
set_option linter.unusedSimpArgs false

theorem rd_le (most : Int) : ∀ (xs : List Nat) (acc a : Nat) (r : List Nat), rdL most acc xs = some (a, r) → (a : Int) ≤ most ∧ r.length < xs.length := by
  intro xs
  induction xs with
  | nil => intro acc a r h; cases h
  | cons x xs ih =>
    intro acc a r h
    rw [rdL] at h
    split at h
    · cases h
    · split at h
      · injection h with h
        injection h with h1 h2
        subst h1 h2
        exact ⟨by omega, by simp⟩
      · split at h
        · cases h
        · obtain ⟨h1, h2⟩ := ih _ _ _ h
          exact ⟨h1, by simp; omega⟩
/-- A number above the one ahead, not above most, and what is left. -/
def abL (ahead most : Int) (xs : List Nat) : Option (Int × List Nat) := (rdL (most - ahead - 1) 0 xs).map fun p => (ahead + 1 + p.1, p.2)
theorem ab_some {ahead most : Int} {xs : List Nat} {a : Nat} {r : List Nat} (h : rdL (most - ahead - 1) 0 xs = some (a, r)) : abL ahead most xs = some (ahead + 1 + a, r) := by unfold abL; rw [h]; rfl
theorem ab_none {ahead most : Int} {xs : List Nat} (h : rdL (most - ahead - 1) 0 xs = none) : abL ahead most xs = none := by unfold abL; rw [h]; rfl
theorem ab_le {ahead most n : Int} {xs r : List Nat} (h : abL ahead most xs = some (n, r)) : ahead < n ∧ n ≤ most ∧ r.length < xs.length := by
  unfold abL at h
  rw [Option.map_eq_some_iff] at h
  obtain ⟨⟨a, r'⟩, h1, h2⟩ := h
  injection h2 with h2 h3
  dsimp only at h2 h3
  subst h3
  have := rd_le _ _ _ _ _ h1
  exact ⟨by omega, by omega, this.2⟩
/-- How a reading of such a number ends. -/
def AbEnd (ahead most : Int) (xs : List Nat) (Bx : Nat) (w : World) (e : Ending) (w' : World) : Prop :=
  (∃ n r, abL ahead most xs = some (n, r) ∧ e = .returned (.int .i64 n) ∧ Rd w' Bx r ∧ Kp Bx w w') ∨ (abL ahead most xs = none ∧ e = .panicked [faultP] ∧ Kp Bx w w')
set_option maxRecDepth 100000 in
theorem above_any (Bx : Nat) (ahead most : Int) (h1 : -1 ≤ ahead) (h2 : ahead ≤ 9007199254740992) (h3 : 0 ≤ most) (h4 : most ≤ 9007199254740992) (xs : List Nat) (w : World) (h : Rd w Bx xs) :
    Calls Try.prog 30 #[.pointer (some ⟨Bx, 0, none⟩), .int .i64 ahead, .int .i64 most] w (AbEnd ahead most xs Bx w) := by
  have HN : Hid (Calls Try.prog 22 #[.pointer (some ⟨Bx, 0, none⟩), .int .i64 (most - ahead - 1)] w fun e w' => (∃ a : Nat, ∃ r, rdL (most - ahead - 1) 0 xs = some (a, r) ∧ (a : Int) ≤ most - ahead - 1 ∧ e = .returned (.int .i64 (a : Nat)) ∧ Rd w' Bx r ∧ Kp Bx w w') ∨ (rdL (most - ahead - 1) 0 xs = none ∧ e = .panicked [faultP] ∧ Kp Bx w w')) :=
    Lib.hid ((number_any2 Bx (most - ahead - 1) (by omega) xs w h).mono fun e w' z => z.imp (fun ⟨a, r, z1, z2⟩ => ⟨a, r, z1, (rd_le _ _ _ _ _ z1).1, z2⟩) id)
  clear h
  go_enter Try.func30, Try.ntmps30
  go_wp2_with (go_at_call 22; (with_reducible refine HN.out.mono ?_); rintro e w1 (⟨a, r, ha, hb, rfl, hr, hk⟩ | ⟨ha, rfl, hk⟩))
  · go_ret
    exact .inl ⟨ahead + 1 + a, r, ab_some ha, rfl, hr, hk⟩
  · exact ⟨rfl, .inr ⟨ab_none ha, rfl, hk⟩⟩
theorem above_yes {Bx : Nat} {ahead most n : Int} {xs r : List Nat} (h : abL ahead most xs = some (n, r)) (h1 : -1 ≤ ahead) (h2 : ahead ≤ 9007199254740992) (h3 : 0 ≤ most) (h4 : most ≤ 9007199254740992) (w : World) (hr : Rd w Bx xs) :
    Calls Try.prog 30 #[.pointer (some ⟨Bx, 0, none⟩), .int .i64 ahead, .int .i64 most] w fun e w' => e = .returned (.int .i64 n) ∧ Rd w' Bx r ∧ Kp Bx w w' :=
  (above_any Bx ahead most h1 h2 h3 h4 xs w hr).mono fun e w' z => by
    rcases z with ⟨n', r', z1, z2⟩ | ⟨z1, z2⟩
    · rw [h] at z1; injection z1 with z1; injection z1 with z3 z4; subst z3 z4; exact z2
    · rw [h] at z1; cases z1
theorem above_no {Bx : Nat} {ahead most : Int} {xs : List Nat} (h : abL ahead most xs = none) (h1 : -1 ≤ ahead) (h2 : ahead ≤ 9007199254740992) (h3 : 0 ≤ most) (h4 : most ≤ 9007199254740992) (w : World) (hr : Rd w Bx xs) :
    Calls Try.prog 30 #[.pointer (some ⟨Bx, 0, none⟩), .int .i64 ahead, .int .i64 most] w fun e w' => e = .panicked [faultP] ∧ Kp Bx w w' :=
  (above_any Bx ahead most h1 h2 h3 h4 xs w hr).mono fun e w' z => by
    rcases z with ⟨n', r', z1, z2⟩ | ⟨z1, z2⟩
    · rw [h] at z1; cases z1
    · exact z2
theorem Kp.cell {Bx : Nat} {w w' : World} (h : Kp Bx w w') {p : Addr} (h1 : Bx < p.block) (h2 : p.block < w.heap.size) : w'.cell? p = w.cell? p := World.cell?_of_block (w := w) (h.2 p.block h1 h2)
theorem Rd.keep {w w' : World} {Bx : Nat} {xs : List Nat} (h : Rd w Bx xs) (hb : Below w.heap.size w w') : Rd w' Bx xs := by
  obtain ⟨A, c, hh, hl, hr⟩ := h
  have hlt := (Array.getElem?_eq_some_iff.1 hh).1
  exact ⟨A, c, (hb.block Bx hlt).trans hh, hl, hr.keep fun g hg => hb.block g (by omega)⟩
theorem Rd.lt {w : World} {Bx : Nat} {xs : List Nat} (h : Rd w Bx xs) : Bx < w.heap.size := by
  obtain ⟨A, c, hh, _⟩ := h
  exact (Array.getElem?_eq_some_iff.1 hh).1
/-- A store into a block behind the reader's. -/
theorem Rd.other {w w' : World} {Bx : Nat} {xs : List Nat} (h : Rd w Bx xs) (hb : Below (Bx + 1) w w') : Rd w' Bx xs := by
  obtain ⟨A, c, hh, hl, hr⟩ := h
  exact ⟨A, c, (hb.block Bx (by omega)).trans hh, hl, hr.keep fun g hg => hb.block g (by omega)⟩
/-- A posting of the reader's own. -/
def PB (w : World) (P : Nat) (a b : Int) (v : Value) : Prop := w.heap[P]? = some (.cells #[.int .i64 a, .int .i64 b, v] 48)
theorem PB.c {w : World} {P : Nat} {a b : Int} {v : Value} (h : PB w P a b v) (j : Nat) : w.cell? ⟨P, j, none⟩ = #[.int .i64 a, .int .i64 b, v][j]? := cell_of_row w P j #[.int .i64 a, .int .i64 b, v] _ _ h
theorem PB.z {w : World} {P : Nat} {a b : Int} {v : Value} (h : PB w P a b v) (j : Nat) : w.frozen? ⟨P, j, none⟩ = false := by
  have h' : w.heap[P]? = _ := h
  unfold World.frozen?
  simp [h']
theorem PB.keep {w w' : World} {P Bx : Nat} {a b : Int} {v : Value} (h : PB w P a b v) (k : Kp Bx w w') (hlt : Bx < P) : PB w' P a b v :=
  (k.2 P hlt (Array.getElem?_eq_some_iff.1 h).1).trans h
theorem PB.lt {w : World} {P : Nat} {a b : Int} {v : Value} (h : PB w P a b v) : P < w.heap.size := (Array.getElem?_eq_some_iff.1 h).1
theorem PB.set1 {w : World} {P : Nat} {a b : Int} {v : Value} (h : PB w P a b v) (b' : Int) : PB (w.setCell ⟨P, 1, none⟩ (.int .i64 b')) P a b' v := by
  have h' : w.heap[P]? = _ := h
  show (w.setCell ⟨P, 1, none⟩ (.int .i64 b')).heap[P]? = _
  simp [World.setCell, Array.getElem?_modify, h']
theorem PB.set2 {w : World} {P : Nat} {a b : Int} {v : Value} (h : PB w P a b v) (v' : Value) : PB (w.setCell ⟨P, 2, none⟩ v') P a b v' := by
  have h' : w.heap[P]? = _ := h
  show (w.setCell ⟨P, 2, none⟩ v').heap[P]? = _
  simp [World.setCell, Array.getElem?_modify, h']
end Go.Proofs.Ythpfaaindkkpcaa
