/- The contract of did: an act is done. -/
import Derived.Test.YtmeijienfdefjaaDActs
import Derived.Deep.RegionHeldLaw
namespace Go.Proofs.Ytmeijienfdefjaa
open Go.RowKit
set_option linter.unusedVariables false

/-- What an act makes of a disk. -/
def putS (S : DS) (at_ : Int) (n : Nat) (F : Nat → Nat) : DS := if reachI S at_ ≠ 0 ∨ n ≠ S.size then S else strikeS (keepS S at_.toNat F)
def putI (S : DS) (at_ : Int) (n : Nat) (F : Nat → Nat) : Int := if reachI S at_ ≠ 0 then reachI S at_ else if n ≠ S.size then 3 else strikeI (keepS S at_.toNat F)
def flushD (S : DS) : DS := if S.down = true then S else if strikeI S = 4 then strikeS S else flushS S
def flushI (S : DS) : Int := if S.down = true then 4 else strikeI S
def kind7 (x : ActD) : Nat := (x.kind % 7).toNat
def didS (S : DS) (x : ActD) : DS :=
  if kind7 x = 3 then flushD S else if kind7 x = 4 then S else if kind7 x = 5 then armS S x.at_ else if kind7 x = 6 then crashS S x.fa x.fL else putS S x.at_ (lenN x S.size) (actF x.b (lenN x S.size))

theorem reach_in {S : DS} {at_ : Int} (h : reachI S at_ = 0) : S.down = false ∧ 0 ≤ at_ ∧ at_ < S.N := by
  unfold reachI at h
  split at h
  · omega
  · rename_i hd
    split at h
    · omega
    · exact ⟨by simpa using hd, by omega, by omega⟩
theorem strikeI_or (S : DS) : strikeI S = 4 ∨ strikeI S = 0 := by unfold strikeI; split <;> simp

section
variable {w w' : World} {base : Nat} {M : DM} {S S' : DS}
theorem Left.of_below [Spare] (h : Dsk w base M S) (l : Below w.heap.size w w') : Left S base M w w' := ⟨M.vl, h.below l, Turns.of_below l, keepB_below l, .inl rfl⟩
theorem Left.behind [Spare] {W : World} (l : Below w.heap.size w W) (h : Left S' base M W w') : Left S' base M w w' := by
  obtain ⟨v', d, t, k, o⟩ := h
  refine ⟨v', d, (Turns.of_below l).trans t, (keepB_below l).trans k, ?_⟩
  rcases o with o | ⟨g, o, hg⟩ | o
  · exact .inl o
  · exact .inr (.inl ⟨g, o, Nat.le_trans l.size hg⟩)
  · exact .inr (.inr o)
theorem Left.same [Spare] (d : Dsk w' base M S') (t : Turns base M w w') (k : KeepB base w w') : Left S' base M w w' := ⟨M.vl, d, t, k, .inl rfl⟩
theorem Left.none_ [Spare] (d : Dsk w' base { M with vl := .slice none 0 0 } S') (t : Turns base M w w') (k : KeepB base w w') : Left S' base M w w' := ⟨.slice none 0 0, d, t, k, .inr (.inr rfl)⟩
end

theorem flush_any [Spare] (w : World) (base : Nat) (M : DM) (S : DS) (h : Dsk w base M S) :
    Calls Try.prog 52 #[.pointer (some ⟨M.p, 0, none⟩)] w fun e w' => e = .returned (.int .i64 (flushI S)) ∧ Left (flushD S) base M w w' := by
  by_cases hd : S.down = true
  · have e1 : flushI S = 4 := if_pos hd
    have e2 : flushD S = S := if_pos hd
    rw [e1, e2]
    refine (flush_down w base M S h hd).mono ?_
    rintro e w' ⟨rfl, rfl⟩
    exact ⟨rfl, Left.refl h⟩
  · have hd2 : S.down = false := by simpa using hd
    have e1 : flushI S = strikeI S := if_neg hd
    have e2 : flushD S = if strikeI S = 4 then strikeS S else flushS S := if_neg hd
    rw [e1, e2]
    rcases strikeI_or S with hs | hs
    · rw [hs]
      refine (flush_no w base M S h hd2 hs).mono ?_
      rintro e w' ⟨rfl, d, t, k⟩
      exact ⟨rfl, Left.same d t k⟩
    · rw [hs]
      refine (flush_ok w base M S h hd2 hs).mono ?_
      rintro e w' ⟨rfl, d, t, k⟩
      exact ⟨rfl, Left.none_ d t k⟩
def ReadLook (w : World) (e : Ending) (w' : World) : Prop := (∃ v, e = .returned v) ∧ Below w.heap.size w w'
theorem read_look [Spare] (at_ : Int) (w : World) (base : Nat) (M : DM) (S : DS) (h : Dsk w base M S) :
    Calls Try.prog 18 #[.pointer (some ⟨M.p, 0, none⟩), .int .i64 at_] w (ReadLook w) := by
  by_cases h0 : reachI S at_ = 0
  · obtain ⟨h1, h2, h3⟩ := reach_in h0
    obtain ⟨k, rfl⟩ := Int.eq_ofNat_of_zero_le h2
    refine (readDisk_ok k w base M S h (by omega) h1).mono ?_
    rintro e w' ⟨rfl, _, l⟩
    exact ⟨⟨_, rfl⟩, l⟩
  · refine (readDisk_no at_ w base M S h h0).mono ?_
    rintro e w' ⟨rfl, rfl⟩
    exact ⟨⟨_, rfl⟩, Below.refl _ _⟩
theorem write_any [Spare] (at_ : Int) (b o n c : Nat) (F : Nat → Nat) (w : World) (base : Nat) (M : DM) (S : DS) (h : Dsk w base M S) (hbase : base ≤ w.heap.size) (hL : S.loose.length < 1000000) (hb : Bytes w (some ⟨b, o, none⟩) n F) :
    Calls Try.prog 26 #[.pointer (some ⟨M.p, 0, none⟩), .int .i64 at_, .slice (some ⟨b, o, none⟩) n c] w fun e w' => e = .returned (.int .i64 (putI S at_ n F)) ∧ Left (putS S at_ n F) base M w w' := by
  by_cases h0 : reachI S at_ = 0
  · obtain ⟨h1, h2, h3⟩ := reach_in h0
    by_cases hn : n = S.size
    · subst hn
      have e1 : putI S at_ S.size F = strikeI (keepS S at_.toNat F) := by unfold putI; rw [if_neg (fun q => q h0), if_neg (fun q => q rfl)]
      have e2 : putS S at_ S.size F = strikeS (keepS S at_.toNat F) := by unfold putS; rw [if_neg (fun q => q.elim (fun z => z h0) fun z => z rfl)]
      rw [e1, e2]
      obtain ⟨k, rfl⟩ := Int.eq_ofNat_of_zero_le h2
      exact write_ok k b o c F w base M S h hbase h1 (by omega) hL hb
    · have e1 : putI S at_ n F = 3 := by unfold putI; rw [if_neg (fun q => q h0), if_pos hn]
      have e2 : putS S at_ n F = S := by unfold putS; rw [if_pos (.inr hn)]
      rw [e1, e2]
      refine (write_size at_ _ n c w base M S h h0 hn hb.1).mono ?_
      rintro e w' ⟨rfl, rfl⟩
      exact ⟨rfl, Left.refl h⟩
  · have e1 : putI S at_ n F = reachI S at_ := by unfold putI; rw [if_pos h0]
    have e2 : putS S at_ n F = S := by unfold putS; rw [if_pos (.inl h0)]
    rw [e1, e2]
    refine (write_no at_ _ w base M S h h0).mono ?_
    rintro e w' ⟨rfl, rfl⟩
    exact ⟨rfl, Left.refl h⟩

theorem kind_go (k : Int) (h : -9223372036854775808 ≤ k ∧ k ≤ 9223372036854775807) : (wrap64 (k.tmod 7 + 7)).tmod 7 = (((k % 7).toNat : Nat) : Int) := by
  have e := tmod_as k 7 (by omega)
  have h2 : 0 ≤ k % (7 : Int) := Int.emod_nonneg k (by omega)
  have h3 : k % (7 : Int) < 7 := Int.emod_lt_of_pos k (by omega)
  have e0 : ((7 : Nat) : Int) = 7 := rfl
  rw [e0] at e
  obtain ⟨m, hm⟩ : ∃ m, m = k.tmod 7 := ⟨_, rfl⟩
  obtain ⟨r, hr⟩ : ∃ r, r = k % 7 := ⟨_, rfl⟩
  rw [← hm, ← hr] at e
  rw [← hr] at h2 h3
  rw [← hm, ← hr]
  clear hm hr
  have e' : (m < 0 ∧ r = m + 7) ∨ (0 ≤ m ∧ r = m) := by
    by_cases q : m < 0
    · rw [if_pos q] at e; exact .inl ⟨q, e⟩
    · rw [if_neg q] at e; exact .inr ⟨by omega, e⟩
  clear e
  have h5 : wrap64 (m + 7) = m + 7 := by unfold wrap64; omega
  rw [h5, Int.tmod_eq_emod_of_nonneg (by omega)]
  omega

def BoxIs (W : World) (b : Nat) (x : ActD) : Prop := (W.cell? ⟨b, 0, none⟩ = x.cells[0]? ∧ W.cell? ⟨b, 1, none⟩ = x.cells[1]?) ∧ W.cell? ⟨b, 2, none⟩ = x.cells[2]? ∧ W.cell? ⟨b, 3, none⟩ = x.cells[3]? ∧ W.cell? ⟨b, 4, none⟩ = x.cells[4]?
theorem Left.turns [Spare] {S' : DS} {base : Nat} {M : DM} {w w' : World} (h : Left S' base M w w') : Turns base M w w' := by
  obtain ⟨_, _, t, _, _⟩ := h
  exact t
end Go.Proofs.Ytmeijienfdefjaa
