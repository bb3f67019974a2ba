/- What a row of calls leaves of a disk and of what was there ahead of it. -/
import Derived.Test.YtmeijienfdefjaaDCrash
namespace Go.Proofs.Ytmeijienfdefjaa
open Go.RowKit

/-- A disk whose blocks all lie from base on; what lay below base is as it was in w0. -/
structure On [Spare] (w0 : World) (base : Nat) (M : DM) (S : DS) (w : World) : Prop where
  d : Dsk w base M S
  b : Below base w0 w
  z : base ≤ w0.heap.size

section
variable {w0 w w' : World} {base : Nat} {M : DM} {S S' : DS}
theorem On.le [Spare] (h : On w0 base M S w) : base ≤ w.heap.size := Nat.le_trans h.z h.b.size
theorem Turns.on [Spare] (h : On w0 base M S w) (t : Turns base M w w') : Below base w0 w' := by
  refine ⟨t.os.trans h.b.os, t.tape.trans h.b.tape, t.output.trans h.b.output, Nat.le_trans h.b.size t.size, fun k hk => ?_⟩
  obtain ⟨a1, a2, a3, a4⟩ := h.d.away k (.inl hk)
  exact (t.block k (Nat.lt_of_lt_of_le hk h.le) a1 a2 a3 a4).trans (h.b.block k hk)
theorem On.left [Spare] (h : On w0 base M S w) (l : Left S' base M w w') : ∃ v', On w0 base { M with vl := v' } S' w' := by
  obtain ⟨v', d, t, _, _⟩ := l
  exact ⟨v', d, t.on h, h.z⟩
theorem On.to [Spare] {v' : Value} (h : On w0 base M S w) (d : Dsk w' base { M with vl := v' } S') (t : Turns base M w w') : On w0 base { M with vl := v' } S' w' := ⟨d, t.on h, h.z⟩
theorem On.below [Spare] (h : On w0 base M S w) (l : Below w.heap.size w w') : On w0 base M S w' := ⟨h.d.below l, h.b.trans (l.mono h.le), h.z⟩
theorem On.drew [Spare] (h : On w0 base M S w) : On w0 base M S w.drew := h.below (Below.refl _ _).drew
end

theorem Ints.below {w w' : World} {A : Option Addr} {n B : Nat} {fa : Nat → Int} (h : Ints w A n fa) (hb : Below B w w') (hB : w.heap.size ≤ B) : Ints w' A n fa :=
  h.keep fun b o e hn => hb.block b (by have := h.blk b o e hn; omega)
/-- A block of ints is none of the disk's own. -/
theorem Dsk.apartI [Spare] {w : World} {base b o n : Nat} {M : DM} {S : DS} {cs : Array Value} (h : Dsk w base M S) (hb : w.heap[b]? = some (.cells cs 3 (0, 0))) : ApartI (some ⟨b, o, none⟩) n M := by
  rintro _ b' o' e
  injection e with e
  injection e with e1 e2
  subst e1
  obtain ⟨V, ⟨c, cv, _⟩, _⟩ := h.vf
  obtain ⟨U, ⟨c', cu, _⟩, _⟩ := h.vn
  obtain ⟨vs, _, l2, _⟩ := h.lo
  refine ⟨type_ne hb h.hp (by decide), type_ne hb cv (by decide), type_ne hb cu (by decide), fun e => ?_⟩
  rcases l2.2 with ⟨hv, _⟩ | ⟨g, cap, cur, hv, _, hh, _⟩
  · rw [hv] at e; cases e
  · rw [hv] at e
    simp only [Value.ownBlock, Option.some.injEq] at e
    exact type_ne hh hb (by decide) e
/-- A block of bytes that is none of the disk's own lasts. (None of the disk's four blocks is one of bytes.) -/
theorem Dsk.apartB [Spare] {w : World} {base g : Nat} {M : DM} {S : DS} {cs : Array Value} (h : Dsk w base M S) (hb : w.heap[g]? = some (.cells cs 5 (0, 0))) : g ≠ M.p ∧ g ≠ M.bf ∧ g ≠ M.bn ∧ M.vl.ownBlock ≠ some g := by
  obtain ⟨V, ⟨c, cv, _⟩, _⟩ := h.vf
  obtain ⟨U, ⟨c', cu, _⟩, _⟩ := h.vn
  obtain ⟨vs, _, l2, _⟩ := h.lo
  refine ⟨type_ne hb h.hp (by decide), type_ne hb cv (by decide), type_ne hb cu (by decide), fun e => ?_⟩
  rcases l2.2 with ⟨hv, _⟩ | ⟨g, cap, cur, hv, _, hh, _⟩
  · rw [hv] at e; cases e
  · rw [hv] at e
    simp only [Value.ownBlock, Option.some.injEq] at e
    exact type_ne hh hb (by decide) e
theorem BRow.turns [Spare] {w w' : World} {base g n : Nat} {M : DM} {S : DS} {F : Nat → Nat} (h : BRow w g n F) (d : Dsk w base M S) (t : Turns base M w w') : BRow w' g n F := by
  obtain ⟨c, hc, _⟩ := id h.1
  obtain ⟨a1, a2, a3, a4⟩ := d.apartB hc
  exact h.of_block (t.block g h.lt a1 a2 a3 a4)
theorem BRow.left [Spare] {w w' : World} {base g n : Nat} {M : DM} {S S' : DS} {F : Nat → Nat} (h : BRow w g n F) (d : Dsk w base M S) (l : Left S' base M w w') : BRow w' g n F := by
  obtain ⟨_, _, t, _, _⟩ := l
  exact h.turns d t
theorem Ints.apart [Spare] {w0 w : World} {base L : Nat} {A : Option Addr} {fa : Nat → Int} {M : DM} {S : DS} (h : Ints w0 A L fa) (hz : w0.heap.size ≤ base) (d : Dsk w base M S) : ApartI A L M := fun hn b o e => d.away b (.inl (by have := h.blk b o e hn; omega))
theorem one_int (w : World) (z : Int) (h0 : -9223372036854775808 ≤ z) (h1 : z ≤ 9223372036854775807) : Ints (w.alloc (.cells #[.int .i64 z] 3)) (some ⟨w.heap.size, 0, none⟩) 1 (fun _ => z) := by
  refine ⟨by omega, fun _ _ => ⟨h0, h1⟩, fun _ => ⟨_, _, rfl, fun i hi => ?_⟩⟩
  obtain rfl : i = 0 := by omega
  simp
theorem crash_one [Spare] (z : Int) (w0 w : World) (base : Nat) (M : DM) (S : DS) (h : On w0 base M S w) (h0 : -9223372036854775808 ≤ z) (h1 : z ≤ 9223372036854775807) (c : Nat) :
    Calls Try.prog 33 #[.pointer (some ⟨M.p, 0, none⟩), .slice (some ⟨w.heap.size, 0, none⟩) 1 c] (w.alloc (.cells #[.int .i64 z] 3)) fun e w' => e = .returned (.tuple #[]) ∧ On w0 base { M with vl := .slice none 0 0 } (crashS S (fun _ => z) 1) w' ∧ ∀ g n F, BRow w g n F → BRow w' g n F := by
  have l1 : Below w.heap.size w (w.alloc (.cells #[.int .i64 z] 3)) := (Below.refl _ _).alloc (Nat.le_refl _) _
  have h2 := h.below l1
  refine (crash_any (some ⟨w.heap.size, 0, none⟩) 1 c (fun _ => z) _ base M S h2.d h2.le (one_int w z h0 h1) (h2.d.apartI (cs := #[.int .i64 z]) (heap_alloc_new w _))).mono ?_
  rintro e w' ⟨rfl, d, t, _⟩
  exact ⟨rfl, h2.to d t, fun g n F r => (r.below l1 r.lt).turns h2.d t⟩
end Go.Proofs.Ytmeijienfdefjaa
