/- The contract of did: an act is done. -/
import Derived.Test.YtpajedofffnhdaaDActs
import Derived.Deep.RegionHeldLaw
namespace Go.Proofs.Ytpajedofffnhdaa
open Go.RowKit
set_option linter.unusedVariables false

/-- What an act makes of a disk. -/
def putS (S : DS) (at_ : Int) (n : Nat) (F : Nat → Nat) : DS := if reachI S at_ ≠ 0 ∨ n ≠ S.size then S else strikeS (keepS S at_.toNat F)
def putI (S : DS) (at_ : Int) (n : Nat) (F : Nat → Nat) : Int := if reachI S at_ ≠ 0 then reachI S at_ else if n ≠ S.size then 3 else strikeI (keepS S at_.toNat F)
def flushD (S : DS) : DS := if S.down = true then S else if strikeI S = 4 then strikeS S else flushS S
def flushI (S : DS) : Int := if S.down = true then 4 else strikeI S
def kind7 (x : ActD) : Nat := (x.kind % 7).toNat
def didS (S : DS) (x : ActD) : DS :=
  if kind7 x = 3 then flushD S else if kind7 x = 4 then S else if kind7 x = 5 then armS S x.at_ else if kind7 x = 6 then crashS S x.fa x.fL else putS S x.at_ (lenN x S.size) (actF x.b (lenN x S.size))

theorem reach_in {S : DS} {at_ : Int} (h : reachI S at_ = 0) : S.down = false ∧ 0 ≤ at_ ∧ at_ < S.N := by
  unfold reachI at h
  split at h
  · omega
  · rename_i hd
    split at h
    · omega
    · exact ⟨by simpa using hd, by omega, by omega⟩
theorem strikeI_or (S : DS) : strikeI S = 4 ∨ strikeI S = 0 := by unfold strikeI; split <;> simp

section
variable {w w' : World} {base : Nat} {M : DM} {S S' : DS}
theorem Left.of_below [Spare] (h : Dsk w base M S) (l : Below w.heap.size w w') : Left S base M w w' := ⟨M.vl, h.below l, Turns.of_below l, keepB_below l, .inl rfl⟩
theorem Left.behind [Spare] {W : World} (l : Below w.heap.size w W) (h : Left S' base M W w') : Left S' base M w w' := by
  obtain ⟨v', d, t, k, o⟩ := h
  refine ⟨v', d, (Turns.of_below l).trans t, (keepB_below l).trans k, ?_⟩
  rcases o with o | ⟨g, o, hg⟩ | o
  · exact .inl o
  · exact .inr (.inl ⟨g, o, Nat.le_trans l.size hg⟩)
  · exact .inr (.inr o)
theorem Left.same [Spare] (d : Dsk w' base M S') (t : Turns base M w w') (k : KeepB base w w') : Left S' base M w w' := ⟨M.vl, d, t, k, .inl rfl⟩
theorem Left.none_ [Spare] (d : Dsk w' base { M with vl := .slice none 0 0 } S') (t : Turns base M w w') (k : KeepB base w w') : Left S' base M w w' := ⟨.slice none 0 0, d, t, k, .inr (.inr rfl)⟩
end

theorem flush_any [Spare] (w : World) (base : Nat) (M : DM) (S : DS) (h : Dsk w base M S) :
    Calls Try.prog 14 #[.pointer (some ⟨M.p, 0, none⟩)] w fun e w' => e = .returned (.int .i64 (flushI S)) ∧ Left (flushD S) base M w w' := by
  by_cases hd : S.down = true
  · have e1 : flushI S = 4 := if_pos hd
    have e2 : flushD S = S := if_pos hd
    rw [e1, e2]
    refine (flush_down w base M S h hd).mono ?_
    rintro e w' ⟨rfl, rfl⟩
    exact ⟨rfl, Left.refl h⟩
  · have hd2 : S.down = false := by simpa using hd
    have e1 : flushI S = strikeI S := if_neg hd
    have e2 : flushD S = if strikeI S = 4 then strikeS S else flushS S := if_neg hd
    rw [e1, e2]
    rcases strikeI_or S with hs | hs
    · rw [hs]
      refine (flush_no w base M S h hd2 hs).mono ?_
      rintro e w' ⟨rfl, d, t, k⟩
      exact ⟨rfl, Left.same d t k⟩
    · rw [hs]
      refine (flush_ok w base M S h hd2 hs).mono ?_
      rintro e w' ⟨rfl, d, t, k⟩
      exact ⟨rfl, Left.none_ d t k⟩
def ReadLook (w : World) (e : Ending) (w' : World) : Prop := (∃ v, e = .returned v) ∧ Below w.heap.size w w'
theorem read_look [Spare] (at_ : Int) (w : World) (base : Nat) (M : DM) (S : DS) (h : Dsk w base M S) :
    Calls Try.prog 16 #[.pointer (some ⟨M.p, 0, none⟩), .int .i64 at_] w (ReadLook w) := by
  by_cases h0 : reachI S at_ = 0
  · obtain ⟨h1, h2, h3⟩ := reach_in h0
    obtain ⟨k, rfl⟩ := Int.eq_ofNat_of_zero_le h2
    refine (readDisk_ok k w base M S h (by omega) h1).mono ?_
    rintro e w' ⟨rfl, _, l⟩
    exact ⟨⟨_, rfl⟩, l⟩
  · refine (readDisk_no at_ w base M S h h0).mono ?_
    rintro e w' ⟨rfl, rfl⟩
    exact ⟨⟨_, rfl⟩, Below.refl _ _⟩
theorem write_any [Spare] (at_ : Int) (b o n c : Nat) (F : Nat → Nat) (w : World) (base : Nat) (M : DM) (S : DS) (h : Dsk w base M S) (hbase : base ≤ w.heap.size) (hL : S.loose.length < 1000000) (hb : Bytes w (some ⟨b, o, none⟩) n F) :
    Calls Try.prog 22 #[.pointer (some ⟨M.p, 0, none⟩), .int .i64 at_, .slice (some ⟨b, o, none⟩) n c] w fun e w' => e = .returned (.int .i64 (putI S at_ n F)) ∧ Left (putS S at_ n F) base M w w' := by
  by_cases h0 : reachI S at_ = 0
  · obtain ⟨h1, h2, h3⟩ := reach_in h0
    by_cases hn : n = S.size
    · subst hn
      have e1 : putI S at_ S.size F = strikeI (keepS S at_.toNat F) := by unfold putI; rw [if_neg (fun q => q h0), if_neg (fun q => q rfl)]
      have e2 : putS S at_ S.size F = strikeS (keepS S at_.toNat F) := by unfold putS; rw [if_neg (fun q => q.elim (fun z => z h0) fun z => z rfl)]
      rw [e1, e2]
      obtain ⟨k, rfl⟩ := Int.eq_ofNat_of_zero_le h2
      exact write_ok k b o c F w base M S h hbase h1 (by omega) hL hb
    · have e1 : putI S at_ n F = 3 := by unfold putI; rw [if_neg (fun q => q h0), if_pos hn]
      have e2 : putS S at_ n F = S := by unfold putS; rw [if_pos (.inr hn)]
      rw [e1, e2]
      refine (write_size at_ _ n c w base M S h h0 hn hb.1).mono ?_
      rintro e w' ⟨rfl, rfl⟩
      exact ⟨rfl, Left.refl h⟩
  · have e1 : putI S at_ n F = reachI S at_ := by unfold putI; rw [if_pos h0]
    have e2 : putS S at_ n F = S := by unfold putS; rw [if_pos (.inl h0)]
    rw [e1, e2]
    refine (write_no at_ _ w base M S h h0).mono ?_
    rintro e w' ⟨rfl, rfl⟩
    exact ⟨rfl, Left.refl h⟩

theorem kind_go (k : Int) (h : -9223372036854775808 ≤ k ∧ k ≤ 9223372036854775807) : (wrap64 (k.tmod 7 + 7)).tmod 7 = (((k % 7).toNat : Nat) : Int) := by
  have e := tmod_as k 7 (by omega)
  have h2 : 0 ≤ k % (7 : Int) := Int.emod_nonneg k (by omega)
  have h3 : k % (7 : Int) < 7 := Int.emod_lt_of_pos k (by omega)
  have e0 : ((7 : Nat) : Int) = 7 := rfl
  rw [e0] at e
  obtain ⟨m, hm⟩ : ∃ m, m = k.tmod 7 := ⟨_, rfl⟩
  obtain ⟨r, hr⟩ : ∃ r, r = k % 7 := ⟨_, rfl⟩
  rw [← hm, ← hr] at e
  rw [← hr] at h2 h3
  rw [← hm, ← hr]
  clear hm hr
  have e' : (m < 0 ∧ r = m + 7) ∨ (0 ≤ m ∧ r = m) := by
    by_cases q : m < 0
    · rw [if_pos q] at e; exact .inl ⟨q, e⟩
    · rw [if_neg q] at e; exact .inr ⟨by omega, e⟩
  clear e
  have h5 : wrap64 (m + 7) = m + 7 := by unfold wrap64; omega
  rw [h5, Int.tmod_eq_emod_of_nonneg (by omega)]
  omega

theorem bytes_box (x : ActD) (size : Nat) (w : World) (hb : x.b < 256) (hs : size ≤ 5000) :
    Calls Try.prog 21 #[.agg x.cells, .int .i64 size] (w.alloc (.cells x.cells 36)).drew fun e w' =>
      e = .returned (.slice (some ⟨w.heap.size + 1 + 1, 0, none⟩) (lenN x size) (lenN x size)) ∧ BRow w' (w.heap.size + 1 + 1) (lenN x size) (actF x.b (lenN x size)) ∧ Below (w.heap.size + 1) (w.alloc (.cells x.cells 36)) w' := by
  have e : (w.alloc (.cells x.cells 36)).drew.heap.size = w.heap.size + 1 := World.size_alloc _ _
  have b := bytes_any x size (w.alloc (.cells x.cells 36)).drew hb hs
  rw [e] at b
  refine b.mono ?_
  rintro e w' ⟨h1, h2, h3⟩
  exact ⟨h1, h2, ((Below.refl _ _).drew).trans h3⟩
def BoxIs (W : World) (b : Nat) (x : ActD) : Prop := (W.cell? ⟨b, 0, none⟩ = x.cells[0]? ∧ W.cell? ⟨b, 1, none⟩ = x.cells[1]?) ∧ W.cell? ⟨b, 2, none⟩ = x.cells[2]? ∧ W.cell? ⟨b, 3, none⟩ = x.cells[3]? ∧ W.cell? ⟨b, 4, none⟩ = x.cells[4]?
theorem Left.turns [Spare] {S' : DS} {base : Nat} {M : DM} {w w' : World} (h : Left S' base M w w') : Turns base M w w' := by
  obtain ⟨_, _, t, _, _⟩ := h
  exact t
theorem box_held [Spare] (w : World) (base : Nat) (M : DM) (S : DS) (x : ActD) (h : Dsk w base M S) :
    (∀ W, Below (w.heap.size + 1) (w.alloc (.cells x.cells 36)) W → BoxIs W w.heap.size x) ∧ ∀ W2 W3, Below (w.heap.size + 1) (w.alloc (.cells x.cells 36)) W2 → Turns base M W2 W3 → BoxIs W3 w.heap.size x := by
  have a : ∀ W, Below (w.heap.size + 1) (w.alloc (.cells x.cells 36)) W → ∀ j, W.cell? ⟨w.heap.size, j, none⟩ = x.cells[j]? := fun W l j => box_cell w W x l j
  refine ⟨fun W l => ⟨⟨a W l 0, a W l 1⟩, a W l 2, a W l 3, a W l 4⟩, fun W2 W3 l t => ?_⟩
  have b : ∀ j, W3.cell? ⟨w.heap.size, j, none⟩ = x.cells[j]? := fun j => by
    obtain ⟨a1, a2, a3, a4⟩ := h.away w.heap.size (.inr (Nat.le_refl _))
    have hz := l.size
    rw [World.size_alloc] at hz
    exact (World.cell?_of_block (w := W2) (a := ⟨w.heap.size, j, none⟩) (t.block w.heap.size (by omega) a1 a2 a3 a4)).trans (a W2 l j)
  exact ⟨⟨b 0, b 1⟩, b 2, b 3, b 4⟩

set_option maxRecDepth 100000 in
set_option maxHeartbeats 2000000 in
theorem did_any [Spare] (x : ActD) (w : World) (base : Nat) (M : DM) (S : DS) (h : Dsk w base M S) (hbase : base ≤ w.heap.size) (hL : S.loose.length < 1000000) (hx : x.ok w) (hA : ApartI x.fA x.fL M) :
    Calls Try.prog 26 #[.pointer (some ⟨M.p, 0, none⟩), .agg x.cells] w fun e w' => e = .returned (.tuple #[]) ∧ Left (didS S x) base M w w' := by
  have hS := h.hS
  have hk := kind_go x.kind hx.k
  have l0 : Below w.heap.size w (w.alloc (.cells x.cells 36)) := (Below.refl _ _).alloc (Nat.le_refl _) _
  have H0 := Lib.hid h
  have L0 := Lib.hid l0
  have HD := Lib.hid (h.below l0)
  have HI := Lib.hid (hx.f.below l0 (Nat.le_refl _))
  have hz : (w.alloc (.cells x.cells 36)).heap.size = w.heap.size + 1 := World.size_alloc _ _
  have HB := Lib.hid (show base ≤ (w.alloc (.cells x.cells 36)).heap.size by omega)
  have HZ := Lib.hid hz
  have D7 : ∀ (e : Nat), kind7 x = e → didS S x = (if e = 3 then flushD S else if e = 4 then S else if e = 5 then armS S x.at_ else if e = 6 then crashS S x.fa x.fL else putS S x.at_ (lenN x S.size) (actF x.b (lenN x S.size))) := fun e he => by unfold didS; rw [he]
  have HX := Lib.hid hx
  have HAP := Lib.hid hA
  have hk7 : (wrap64 (x.kind.tmod 7 + 7)).tmod 7 = ((kind7 x : Nat) : Int) := hk
  have lt7 : kind7 x < 7 := by unfold kind7; omega
  clear hk hx h l0 hz hA
  have hkk := Lib.hid hk7
  clear hk7
  obtain ⟨m, hm⟩ : ∃ m, m = kind7 x := ⟨_, rfl⟩
  have D8 := Lib.hid (D7 m hm.symm)
  rw [← hm] at hkk lt7
  clear D7 hm
  obtain ⟨xk, xa, xl, xb, xA, xL, xC, xf⟩ := x
  unfold ActD.cells at *
  dsimp only at *
  go_enter Try.func26, Try.ntmps26
  go_wp2_with fail
  · have q := ‹((wrap64 (xk.tmod 7 + 7)).tmod 7 == 3) = true›
    rw [hkk.out] at q
    have q2 : m = 3 := by rw [beq_iff_eq] at q; omega
    have DE := Lib.hid (D8.out.trans (if_pos q2))
    clear q q2
    refine (flush_any _ base M S HD.out).mono ?_
    rintro e w' ⟨rfl, LF⟩
    have LE := Lib.hid (Left.behind L0.out LF)
    clear LF
    go_wp2
    go_end0
    exact ⟨rfl, by rw [DE.out]; exact LE.out⟩
  · have q := ‹((wrap64 (xk.tmod 7 + 7)).tmod 7 == 4) = true›
    rw [hkk.out] at q
    have q2 : m = 4 := by rw [beq_iff_eq] at q; omega
    have DE := Lib.hid (D8.out.trans ((if_neg (by omega)).trans (if_pos q2)))
    clear q q2
    refine (read_look xa _ base M S HD.out).mono ?_
    rintro e w' ⟨⟨v, rfl⟩, lr⟩
    have LE := Lib.hid (Left.behind L0.out (Left.of_below HD.out lr))
    clear lr
    go_wp2
    go_end0
    exact ⟨rfl, by rw [DE.out]; exact LE.out⟩
  · have q := ‹((wrap64 (xk.tmod 7 + 7)).tmod 7 == 5) = true›
    rw [hkk.out] at q
    have q2 : m = 5 := by rw [beq_iff_eq] at q; omega
    have DE := Lib.hid (D8.out.trans ((if_neg (by omega)).trans ((if_neg (by omega)).trans (if_pos q2))))
    clear q q2
    refine (arm_any xa _ base M S HD.out (HX.out.a.2)).mono ?_
    rintro e w' ⟨rfl, d, t, k⟩
    have LE := Lib.hid (Left.behind L0.out (Left.same d t k))
    clear d t k
    go_wp2
    go_end0
    exact ⟨rfl, by rw [DE.out]; exact LE.out⟩
  · have q := ‹((wrap64 (xk.tmod 7 + 7)).tmod 7 == 6) = true›
    rw [hkk.out] at q
    have q2 : m = 6 := by rw [beq_iff_eq] at q; omega
    have DE := Lib.hid (D8.out.trans ((if_neg (by omega)).trans ((if_neg (by omega)).trans ((if_neg (by omega)).trans (if_pos q2)))))
    clear q q2
    refine (crash_any xA xL xC xf _ base M S HD.out HB.out HI.out HAP.out).mono ?_
    rintro e w' ⟨rfl, d, t, k⟩
    have LE := Lib.hid (Left.behind L0.out (Left.none_ d t k))
    clear d t k
    go_wp2
    go_end0
    exact ⟨rfl, by rw [DE.out]; exact LE.out⟩
  · have q3 := ‹((wrap64 (xk.tmod 7 + 7)).tmod 7 == 3) = false›
    have q4 := ‹((wrap64 (xk.tmod 7 + 7)).tmod 7 == 4) = false›
    have q5 := ‹((wrap64 (xk.tmod 7 + 7)).tmod 7 == 5) = false›
    have q6 := ‹((wrap64 (xk.tmod 7 + 7)).tmod 7 == 6) = false›
    rw [hkk.out, beq_eq_false_iff_ne] at q3 q4 q5 q6
    have DE := Lib.hid (D8.out.trans ((if_neg (by omega)).trans ((if_neg (by omega)).trans ((if_neg (by omega)).trans (if_neg (by omega))))))
    clear q3 q4 q5 q6
    have KS := Lib.hid (box_held w base M S ⟨xk, xa, xl, xb, xA, xL, xC, xf⟩ H0.out)
    unfold BoxIs at KS
    unfold ActD.cells at KS
    have LD : Below (w.heap.size + 1) (w.alloc (.cells #[.int .i64 xk, .int .i64 xa, .int .i64 xl, .int .u8 (xb : Int), .slice xA xL xC] 36)) (w.alloc (.cells #[.int .i64 xk, .int .i64 xa, .int .i64 xl, .int .u8 (xb : Int), .slice xA xL xC] 36)).drew := (Below.refl _ _).drew
    have hsz : S.size ≤ 5000 := by omega
    have HS := Lib.hid hS
    have HBD := Lib.hid (HD.out.below (Below.refl _ _).drew)
    clear hS
    go_wp2
    go_region_held_law (fun W => (W.cell? ⟨w.heap.size, 0, none⟩ = some (.int .i64 xk) ∧ W.cell? ⟨w.heap.size, 1, none⟩ = some (.int .i64 xa)) ∧ W.cell? ⟨w.heap.size, 2, none⟩ = some (.int .i64 xl) ∧ W.cell? ⟨w.heap.size, 3, none⟩ = some (.int .u8 (xb : Int)) ∧ W.cell? ⟨w.heap.size, 4, none⟩ = some (.slice xA xL xC))
      (first | exact KS.out.2 _ _ LB LW.turns | exact KS.out.1 _ LB | exact KS.out.1 _ LD)
      (first
        | (go_at_call 11; refine (size_any _ base M S HBD.out).mono ?_; rintro e W1 ⟨rfl, rfl⟩)
        | (go_at_call 21; refine (bytes_box ⟨xk, xa, xl, xb, xA, xL, xC, xf⟩ S.size w HX.out.b hsz).mono ?_; rintro e W2 ⟨rfl, rB, LB⟩; have RB := Lib.hid rB)
        | (go_at_call 22; refine (write_any xa _ 0 _ _ (actF xb (lenN ⟨xk, xa, xl, xb, xA, xL, xC, xf⟩ S.size)) _ base M S ?hd ?hb hL ?hy).mono ?_; (case hd => exact HD.out.below (by rw [HZ.out]; exact LB)); (case hb => exact Nat.le_trans HB.out LB.size); (case hy => exact (RB.out.bytes (o := 0) (by omega)).congr fun i _ => by rw [Nat.zero_add]); rintro e W3 ⟨rfl, LW⟩))
    go_wp2
    go_end0
    refine ⟨rfl, ?_⟩
    rw [DE.out]
    exact Left.behind (L0.out.trans (LB.mono (by omega))) LW
end Go.Proofs.Ytpajedofffnhdaa
