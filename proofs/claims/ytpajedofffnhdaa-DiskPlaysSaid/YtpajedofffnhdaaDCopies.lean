/- The walk of DiskCopies. -/
import Derived.Test.YtpajedofffnhdaaDCopy
import Derived.Test.YtpajedofffnhdaaDFast
namespace Go.Proofs.Ytpajedofffnhdaa
open Go.RowKit
set_option linter.unusedVariables false

def readN (S : DS) (at_ : Int) : Nat := if reachI S at_ = 0 then S.size else 0
def ReadPost (S : DS) (at_ : Int) (w : World) (e : Ending) (w' : World) : Prop :=
  ∃ A c, e = .returned (.tuple #[.slice A (readN S at_) c, .int .i64 (reachI S at_)]) ∧ Bytes w' A (readN S at_) (S.now at_.toNat) ∧ Below w.heap.size w w'
theorem read_any [Spare] (at_ : Int) (w : World) (base : Nat) (M : DM) (S : DS) (h : Dsk w base M S) :
    Calls Try.prog 16 #[.pointer (some ⟨M.p, 0, none⟩), .int .i64 at_] w (ReadPost S at_ w) := by
  by_cases h0 : reachI S at_ = 0
  · obtain ⟨h1, h2, h3⟩ := reach_in h0
    obtain ⟨k, rfl⟩ := Int.eq_ofNat_of_zero_le h2
    have e : readN S (k : Int) = S.size := if_pos h0
    refine (readDisk_ok k w base M S h (by omega) h1).mono ?_
    rintro e w' ⟨rfl, r, l⟩
    refine ⟨some ⟨w.heap.size, 0, none⟩, S.size, ?_, ?_, l⟩
    · rw [e, h0]
    · rw [e]
      exact (r.bytes (o := 0) (by omega)).congr fun i _ => by rw [Nat.zero_add]; rfl
  · have e : readN S at_ = 0 := if_neg h0
    refine (readDisk_no at_ w base M S h h0).mono ?_
    rintro e w' ⟨rfl, rfl⟩
    refine ⟨none, 0, ?_, ?_, Below.refl _ _⟩
    · rw [e]
    · rw [e]; exact none_bytes _ _

/-- Two disks that share no block. -/
structure Far (A B : DM) : Prop where
  p : A.p ≠ B.p
  ff : A.bf ≠ B.bf
  fn : A.bf ≠ B.bn
  nf : A.bn ≠ B.bf
  nn : A.bn ≠ B.bn
  v : ∀ k, A.vl.ownBlock = some k → B.vl.ownBlock ≠ some k
theorem Dsk.lt [Spare] {w : World} {base : Nat} {M : DM} {S : DS} (h : Dsk w base M S) : (base ≤ M.p ∧ M.p < w.heap.size) ∧ (base ≤ M.bf ∧ M.bf < w.heap.size) ∧ (base ≤ M.bn ∧ M.bn < w.heap.size) ∧ ∀ k, M.vl.ownBlock = some k → base ≤ k ∧ k < w.heap.size := by
  obtain ⟨V, v1, _⟩ := h.vf
  obtain ⟨U, u1, _⟩ := h.vn
  obtain ⟨vs, _, l2, _⟩ := h.lo
  exact ⟨⟨h.bp, (Array.getElem?_eq_some_iff.1 h.hp).1⟩, ⟨h.bbf, v1.lt⟩, ⟨h.bbn, u1.lt⟩, fun k hk => l2.lt k hk⟩
theorem Far.of_new [Spare] {w w' : World} {b1 : Nat} {A B : DM} {S T : DS} (h : Dsk w b1 A S) (k : Dsk w' w.heap.size B T) : Far A B := by
  obtain ⟨⟨_, a1⟩, ⟨_, a2⟩, ⟨_, a3⟩, a4⟩ := h.lt
  obtain ⟨⟨c1, _⟩, ⟨c2, _⟩, ⟨c3, _⟩, c4⟩ := k.lt
  refine ⟨by omega, by omega, by omega, by omega, by omega, fun k hk e => ?_⟩
  have := (a4 k hk).2
  have := (c4 k e).1
  omega
/-- What is done to one disk leaves another one as it is. -/
theorem Dsk.other [Spare] {w w' : World} {b1 b2 : Nat} {A B : DM} {S S' T : DS} (h : Dsk w b1 A S) (k : Dsk w b2 B T) (f : Far A B) (hb : b1 ≤ b2) (l : Left S' b1 A w w') : ∃ v', Dsk w' b1 { A with vl := v' } S' ∧ Turns b1 A w w' ∧ Dsk w' b2 B T ∧ Far { A with vl := v' } B := by
  obtain ⟨v', d, t, kb, o⟩ := l
  obtain ⟨V, ⟨c1, v1, _⟩, _⟩ := id h.vf
  obtain ⟨U, ⟨c2, u1, _⟩, _⟩ := id h.vn
  obtain ⟨V', ⟨c3, v3, _⟩, _⟩ := id k.vf
  obtain ⟨U', ⟨c4, u3, _⟩, _⟩ := id k.vn
  obtain ⟨vs, _, l2, _⟩ := id h.lo
  obtain ⟨us, _, l4, _⟩ := id k.lo
  obtain ⟨⟨_, a1⟩, ⟨_, a2⟩, ⟨_, a3⟩, a4⟩ := k.lt
  have vlt : ∀ {j : Nat}, A.vl.ownBlock = some j → ∃ cs, w.heap[j]? = some (.cells cs 68 (0, 0)) := fun {j} e => by
    rcases l2.2 with ⟨hv, _⟩ | ⟨g, cap, cur, hv, _, hh, _⟩
    · rw [hv] at e; cases e
    · rw [hv] at e
      simp only [Value.ownBlock, Option.some.injEq] at e
      subst e
      exact ⟨cur, hh⟩
  have vlt2 : ∀ {j : Nat}, B.vl.ownBlock = some j → ∃ cs, w.heap[j]? = some (.cells cs 68 (0, 0)) := fun {j} e => by
    rcases l4.2 with ⟨hv, _⟩ | ⟨g, cap, cur, hv, _, hh, _⟩
    · rw [hv] at e; cases e
    · rw [hv] at e
      simp only [Value.ownBlock, Option.some.injEq] at e
      subst e
      exact ⟨cur, hh⟩
  refine ⟨v', d, t, ?_, ⟨f.p, f.ff, f.fn, f.nf, f.nn, fun j hj => ?_⟩⟩
  · refine k.keep (t.block _ a1 (fun e => f.p e.symm) (type_ne k.hp v1 (by decide)) (type_ne k.hp u1 (by decide)) fun e => ?_) (t.block _ a2 (type_ne v3 h.hp (by decide)) (fun e => f.ff e.symm) (fun e => f.nf e.symm) fun e => ?_)
      (t.block _ a3 (type_ne u3 h.hp (by decide)) (fun e => f.fn e.symm) (fun e => f.nn e.symm) fun e => ?_) (fun j hj => ?_) (fun g cs hg hh => kb g cs ⟨Nat.le_trans hb hg.1, hg.2⟩ hh) t.size
    · obtain ⟨cs, q⟩ := vlt e; exact type_ne k.hp q (by decide) rfl
    · obtain ⟨cs, q⟩ := vlt e; exact type_ne v3 q (by decide) rfl
    · obtain ⟨cs, q⟩ := vlt e; exact type_ne u3 q (by decide) rfl
    · obtain ⟨cs, q⟩ := vlt2 hj
      exact t.block _ (a4 j hj).2 (type_ne q h.hp (by decide)) (type_ne q v1 (by decide)) (type_ne q u1 (by decide)) fun e => f.v j e hj
  · rcases o with o | ⟨g, o, hg⟩ | o
    · exact f.v j (o ▸ hj)
    · intro e
      have hj' : v'.ownBlock = some j := hj
      rw [o] at hj'
      injection hj' with hj'
      have := (a4 j e).2
      omega
    · have hj' : v'.ownBlock = some j := hj
      rw [o] at hj'
      cases hj'

/-- Another choice of the blocks that may hold bytes, that holds all that there are. -/
theorem Dsk.respare {E E' : Spare} {w w' : World} {base : Nat} {M : DM} {S : DS} (h : @Dsk E w base M S) (l : Below w.heap.size w w') (hok : ∀ g, g < w.heap.size → E'.ok g) (hE : ∀ g, w'.heap.size ≤ g → E'.ok g) : @Dsk E' w' base M S := by
  have sec : ∀ {v : Value} {F : Nat → Nat}, @SecV E w base S.size v F → @SecV E' w' base S.size v F := fun {v F} s => by
    refine ⟨s.1, ?_⟩
    rcases s.2 with h2 | ⟨g, c, cs, h1, h2, h3, h4, h5, h6⟩
    · exact .inl h2
    · have hg := (Array.getElem?_eq_some_iff.1 h5).1
      exact .inr ⟨g, c, cs, h1, h2, h3, ⟨h4.1, hok g hg⟩, (l.block g hg).trans h5, h6⟩
  obtain ⟨hp, bp, ⟨V, v1, v2⟩, ⟨U, u1, u2⟩, bfn, bbf, bbn, ⟨vs, l1, l2, l3⟩, hN, hS, hA, hL, hC, _⟩ := h
  refine ⟨(l.block _ (Array.getElem?_eq_some_iff.1 hp).1).trans hp, bp, ⟨V, v1.of_block (l.block _ v1.lt), fun i hi => sec (v2 i hi)⟩, ⟨U, u1.of_block (l.block _ u1.lt), fun i hi => sec (u2 i hi)⟩, bfn, bbf, bbn, ⟨vs, l1, ?_, fun j v x hj hx => ⟨(l3 j v x hj hx).1, sec (l3 j v x hj hx).2.1, (l3 j v x hj hx).2.2⟩⟩, hN, hS, hA, hL, hC, hE⟩
  refine ⟨l2.1, ?_⟩
  rcases l2.2 with h2 | ⟨g, cap, cur, e1, e2, e3, e4⟩
  · exact .inl h2
  · exact .inr ⟨g, cap, cur, e1, e2, (l.block g (Array.getElem?_eq_some_iff.1 e3).1).trans e3, e4⟩
/-- A store into a block that may hold no bytes of the disk. -/
theorem Dsk.apartStore [Spare] {w : World} {base g i : Nat} {M : DM} {S : DS} {cs : Array Value} {u : Value} (h : Dsk w base M S) (hg : w.heap[g]? = some (.cells cs 5 (0, 0))) (ho : ¬ Spare.ok g) : Dsk (w.setCell ⟨g, i, none⟩ u) base M S := by
  obtain ⟨a1, a2, a3, a4⟩ := h.apartB hg
  have ne : ∀ k, k ≠ g → (w.setCell ⟨g, i, none⟩ u).heap[k]? = w.heap[k]? := fun k hk => Below.heap_setCell w ⟨g, i, none⟩ u k hk
  exact h.keep (ne _ (fun e => a1 e.symm)) (ne _ (fun e => a2 e.symm)) (ne _ (fun e => a3 e.symm)) (fun k hk => ne k (fun e => a4 (e ▸ hk))) (fun k ds hk hh => (ne k (fun e => ho (e ▸ hk.2))).trans hh) (Nat.le_of_eq (size_set _ _ _).symm)
end Go.Proofs.Ytpajedofffnhdaa
