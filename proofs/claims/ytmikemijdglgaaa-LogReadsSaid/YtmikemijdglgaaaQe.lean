/- Merged texts: DAwake, DActs, DDid, LLoad, LWrite, LAppend, LSlots, MSeqMem, LSeq, MSeqMemA. -/
import Derived.Test.YtmikemijdglgaaaQd
import Derived.Deep.RegionHeldLaw
import Derived.Deep.DeepCutAuto
import Derived.Deep.CutRange
import Derived.RangeFuncKeeps
import Derived.RangeFuncNested
import Derived.RangeFuncBound
import Derived.RangeFuncCalls
import Derived.RangeFuncLeaves
import Derived.Shelf.Abstract
import Derived.Shelf.RegionOpen
import Derived.WalkKit
import Derived.OwnWalkIn
import Derived.TacticsInMore
import Derived.LoopNIn
import Derived.LoopIn
import Derived.Sort.CutIn
import Derived.RangeFuncFrom
/- The contract of awake: what the chapter's examples say. -/
namespace Go.Proofs.Ytmikemijdglgaaa
open Go.RowKit

/-- append onto bytes of the call's own, as a step of a region that draws its order. -/
theorem step_append_bytes {P : Program} {ops : Array Oper} {o : Oper} {a : Act} {w : World} {K : Act → World → Prop} {Q : Exit → Act → World → Prop} {E : Prop} (hw : Region.wanted o (yielded ops a.tmps) = true) (s x : Operand) (t : TypeId)
    (ho : o.op = .call { callee := .builtin .append, args := #[s, x], argTypes := #[t, t] }) (ht : P.underlying t = some (.slice 5))
    (hinfo : (P.info? 5).map (fun i => (i.zero, i.size, i.bytes)) = some (some (.int .u8 0), 1, 1))
    (base : Nat) (A : Option Addr) (n c : Nat) (F : Nat → Nat) (hs : a.eval s = .slice A n c) (hown : OwnB w base A n c F)
    (ad : Addr) (m d : Nat) (G : Nat → Nat) (hx : a.eval x = .slice (some ad) m d) (hsrc : Bytes w (some ad) m G) (k : Nat) (hk : n + m = k) (hsmall : k ≤ 140737488355328) (hbase : base ≤ w.heap.size)
    (h : ∀ A' c' w', Hid (OwnB w' base A' k c' (catF F n G)) → Hid (w.grownBy w' (blkOf A)) → K (a.put o.dst (.slice A' k c')) w') :
    if Region.wanted o (yielded ops a.tmps) = true then Oper.wp P o a w K Q else E := by
  subst hk
  rw [if_pos hw]
  obtain ⟨i0, hi0, hz0, hz1, hz2⟩ := info_parts hinfo
  obtain ⟨v', w', hr, ho1, hg1, _, hb1⟩ := run_append_own_at (P := P) w base t o.type 5 i0 (.int .u8 0) 1 1 ht hi0 hz0 hz1 hz2 rfl (by omega) _ n _ hown.1 ad m d (cellsOfF G m) (by simp [cellsOfF]) (by
    intro j v hv
    obtain ⟨hj, rfl⟩ := cellsOfF_get hv
    obtain ⟨b, ob, e, hc⟩ := hsrc.2.2 (by omega)
    injection e with e
    subst e
    have := hc j hj
    unfold Addr.add
    split
    · rename_i h0; subst h0; simpa using this
    · simpa using this) (by
    intro v hv
    obtain ⟨k, _, rfl⟩ := List.mem_map.1 hv
    rfl) (by unfold maxLen; omega) (by omega) hbase
  unfold Oper.wp execOp
  simp only [ho, resolve, invoke, builtin, Sem.run_bind, Sem.run_pure, Result.andThen_ok, List.map_toArray, List.map_cons, List.map_nil, hs, hx, hr]
  rw [cells_cat] at ho1
  have hF : ∀ i, i < n + m → catF F n G i < 256 := fun i hi => by
    unfold catF
    split
    · exact hown.2.1 i (by omega)
    · exact hsrc.2.1 _ (by omega)
  have hg2 : w.grownBy w' (blkOf A) := by rcases A with _ | a0 <;> exact hg1
  have ho2 := ho1
  rcases ho1 with ⟨_, ⟨rfl, h0⟩ | ⟨g, cap, cur, rfl, _, _, hc1, hc2, _⟩⟩
  · have := h none 0 w' ⟨by rw [h0] at ho2 ⊢; exact ho2, hF, by omega, by omega, fun _ => rfl⟩ hg2
    rw [h0] at this
    exact this
  · exact h (some ⟨g, 0, none⟩) cap w' ⟨ho2, hF, hc1, by unfold maxLen at hc2; exact hc2, fun e => by cases e⟩ hg2

theorem BRow.ownB {w : World} {g n base : Nat} {F : Nat → Nat} (h : BRow w g n F) (hb : base ≤ g) (_hn : n ≤ 1000000) : OwnB w base (some ⟨g, 0, none⟩) n n F := by
  obtain ⟨⟨c, h1, h2, h3⟩, h4, h5⟩ := h
  refine ⟨⟨by simp [cellsOfF], .inr ⟨g, n, c, rfl, hb, h1, Nat.le_refl _, by unfold maxLen; omega, by omega, ?_⟩⟩, h4, Nat.le_refl _, h5, fun e => by cases e⟩
  rw [Nat.mul_one, List.take_of_length_le (by simp; omega)]
  apply List.ext_getElem?
  intro i
  rcases Nat.lt_or_ge i n with hi | hi
  · rw [Array.getElem?_toList, h3 i hi]
    unfold cellsOfF
    rw [List.getElem?_map, List.getElem?_range hi]
    rfl
  · rw [List.getElem?_eq_none (by simp; omega), List.getElem?_eq_none (by simp [cellsOfF]; omega)]

/-- The states that awake goes through. -/
def aw1 : DS := strikeS (keepS (newS 2 64) 0 (fun _ => 1))
def aw2 : DS := crashS aw1 (fun _ => 3) 1
def aw3 : DS := strikeS (keepS (armS aw2 1) 1 (fun _ => 2))
def aw4 : DS := crashS aw3 (fun _ => 64) 1
def aF (i : Nat) : Nat := catF (fun _ => 1) 3 (fun _ => 0) i
theorem aw2_now : ∀ i, i < 64 → aw2.now 0 i = aF i := by decide +kernel
theorem aw4_now : ∀ i, i < 64 → aw4.now 1 i = 2 := by decide +kernel

theorem keep_conv {w w' : World} {g : Nat} {F : Nat → Nat} (h : BRow w g 64 F) (l : Below w.heap.size w w') : (convert 42 9 (.slice (some ⟨g, 0, none⟩) 64 64)).run Try.prog w' = .ok (.string (strF F 64)) w' := by
  have b := (h.below l h.lt).bytes (o := 0) (m := 64) (by omega)
  exact conv_any 64 (b.congr fun i _ => by rw [Nat.zero_add])

end Go.Proofs.Ytmikemijdglgaaa
/- An act as plain data; its bytes. -/
namespace Go.Proofs.Ytmikemijdglgaaa
open Go.RowKit

structure ActD where
  kind : Int
  at_ : Int
  len : Int
  b : Nat
  fA : Option Addr
  fL : Nat
  fC : Nat
  fa : Nat → Int
def ActD.cells (x : ActD) : Array Value := #[.int .i64 x.kind, .int .i64 x.at_, .int .i64 x.len, .int .u8 (x.b : Int), .slice x.fA x.fL x.fC]
structure ActD.ok (w : World) (x : ActD) : Prop where
  k : -9223372036854775808 ≤ x.kind ∧ x.kind ≤ 9223372036854775807
  a : -9223372036854775808 ≤ x.at_ ∧ x.at_ ≤ 9223372036854775807
  l : -9223372036854775808 ≤ x.len ∧ x.len ≤ 9223372036854775807
  b : x.b < 256
  f : Ints w x.fA x.fL x.fa
  c : x.fA = none → x.fL = 0 ∧ x.fC = 0

def lenN (x : ActD) (size : Nat) : Nat := if x.len < 0 ∨ 5000 < x.len then size else x.len.toNat
def actF (b n i : Nat) : Nat := if 1 < n ∧ i = n - 1 then (b + 1) % 256 else b
theorem actF_lt {b : Nat} (h : b < 256) (n i : Nat) : actF b n i < 256 := by unfold actF; split <;> omega

end Go.Proofs.Ytmikemijdglgaaa
/- The contract of did: an act is done. -/
namespace Go.Proofs.Ytmikemijdglgaaa
open Go.RowKit
set_option linter.unusedVariables false

/-- What an act makes of a disk. -/
def putS (S : DS) (at_ : Int) (n : Nat) (F : Nat → Nat) : DS := if reachI S at_ ≠ 0 ∨ n ≠ S.size then S else strikeS (keepS S at_.toNat F)
def putI (S : DS) (at_ : Int) (n : Nat) (F : Nat → Nat) : Int := if reachI S at_ ≠ 0 then reachI S at_ else if n ≠ S.size then 3 else strikeI (keepS S at_.toNat F)
def flushD (S : DS) : DS := if S.down = true then S else if strikeI S = 4 then strikeS S else flushS S
def flushI (S : DS) : Int := if S.down = true then 4 else strikeI S
def kind7 (x : ActD) : Nat := (x.kind % 7).toNat
def didS (S : DS) (x : ActD) : DS :=
  if kind7 x = 3 then flushD S else if kind7 x = 4 then S else if kind7 x = 5 then armS S x.at_ else if kind7 x = 6 then crashS S x.fa x.fL else putS S x.at_ (lenN x S.size) (actF x.b (lenN x S.size))

theorem reach_in {S : DS} {at_ : Int} (h : reachI S at_ = 0) : S.down = false ∧ 0 ≤ at_ ∧ at_ < S.N := by
  unfold reachI at h
  split at h
  · omega
  · rename_i hd
    split at h
    · omega
    · exact ⟨by simpa using hd, by omega, by omega⟩
theorem strikeI_or (S : DS) : strikeI S = 4 ∨ strikeI S = 0 := by unfold strikeI; split <;> simp

section
variable {w w' : World} {base : Nat} {M : DM} {S S' : DS}
theorem Left.of_below [Spare] (h : Dsk w base M S) (l : Below w.heap.size w w') : Left S base M w w' := ⟨M.vl, h.below l, Turns.of_below l, keepB_below l, .inl rfl⟩
theorem Left.behind [Spare] {W : World} (l : Below w.heap.size w W) (h : Left S' base M W w') : Left S' base M w w' := by
  obtain ⟨v', d, t, k, o⟩ := h
  refine ⟨v', d, (Turns.of_below l).trans t, (keepB_below l).trans k, ?_⟩
  rcases o with o | ⟨g, o, hg⟩ | o
  · exact .inl o
  · exact .inr (.inl ⟨g, o, Nat.le_trans l.size hg⟩)
  · exact .inr (.inr o)
theorem Left.same [Spare] (d : Dsk w' base M S') (t : Turns base M w w') (k : KeepB base w w') : Left S' base M w w' := ⟨M.vl, d, t, k, .inl rfl⟩
theorem Left.none_ [Spare] (d : Dsk w' base { M with vl := .slice none 0 0 } S') (t : Turns base M w w') (k : KeepB base w w') : Left S' base M w w' := ⟨.slice none 0 0, d, t, k, .inr (.inr rfl)⟩
end

theorem flush_any [Spare] (w : World) (base : Nat) (M : DM) (S : DS) (h : Dsk w base M S) :
    Calls Try.prog 52 #[.pointer (some ⟨M.p, 0, none⟩)] w fun e w' => e = .returned (.int .i64 (flushI S)) ∧ Left (flushD S) base M w w' := by
  by_cases hd : S.down = true
  · have e1 : flushI S = 4 := if_pos hd
    have e2 : flushD S = S := if_pos hd
    rw [e1, e2]
    refine (flush_down w base M S h hd).mono ?_
    rintro e w' ⟨rfl, rfl⟩
    exact ⟨rfl, Left.refl h⟩
  · have hd2 : S.down = false := by simpa using hd
    have e1 : flushI S = strikeI S := if_neg hd
    have e2 : flushD S = if strikeI S = 4 then strikeS S else flushS S := if_neg hd
    rw [e1, e2]
    rcases strikeI_or S with hs | hs
    · rw [hs]
      refine (flush_no w base M S h hd2 hs).mono ?_
      rintro e w' ⟨rfl, d, t, k⟩
      exact ⟨rfl, Left.same d t k⟩
    · rw [hs]
      refine (flush_ok w base M S h hd2 hs).mono ?_
      rintro e w' ⟨rfl, d, t, k⟩
      exact ⟨rfl, Left.none_ d t k⟩
def ReadLook (w : World) (e : Ending) (w' : World) : Prop := (∃ v, e = .returned v) ∧ Below w.heap.size w w'
theorem read_look [Spare] (at_ : Int) (w : World) (base : Nat) (M : DM) (S : DS) (h : Dsk w base M S) :
    Calls Try.prog 18 #[.pointer (some ⟨M.p, 0, none⟩), .int .i64 at_] w (ReadLook w) := by
  by_cases h0 : reachI S at_ = 0
  · obtain ⟨h1, h2, h3⟩ := reach_in h0
    obtain ⟨k, rfl⟩ := Int.eq_ofNat_of_zero_le h2
    refine (readDisk_ok k w base M S h (by omega) h1).mono ?_
    rintro e w' ⟨rfl, _, l⟩
    exact ⟨⟨_, rfl⟩, l⟩
  · refine (readDisk_no at_ w base M S h h0).mono ?_
    rintro e w' ⟨rfl, rfl⟩
    exact ⟨⟨_, rfl⟩, Below.refl _ _⟩
theorem write_any [Spare] (at_ : Int) (b o n c : Nat) (F : Nat → Nat) (w : World) (base : Nat) (M : DM) (S : DS) (h : Dsk w base M S) (hbase : base ≤ w.heap.size) (hL : S.loose.length < 1000000) (hb : Bytes w (some ⟨b, o, none⟩) n F) :
    Calls Try.prog 26 #[.pointer (some ⟨M.p, 0, none⟩), .int .i64 at_, .slice (some ⟨b, o, none⟩) n c] w fun e w' => e = .returned (.int .i64 (putI S at_ n F)) ∧ Left (putS S at_ n F) base M w w' := by
  by_cases h0 : reachI S at_ = 0
  · obtain ⟨h1, h2, h3⟩ := reach_in h0
    by_cases hn : n = S.size
    · subst hn
      have e1 : putI S at_ S.size F = strikeI (keepS S at_.toNat F) := by unfold putI; rw [if_neg (fun q => q h0), if_neg (fun q => q rfl)]
      have e2 : putS S at_ S.size F = strikeS (keepS S at_.toNat F) := by unfold putS; rw [if_neg (fun q => q.elim (fun z => z h0) fun z => z rfl)]
      rw [e1, e2]
      obtain ⟨k, rfl⟩ := Int.eq_ofNat_of_zero_le h2
      exact write_ok k b o c F w base M S h hbase h1 (by omega) hL hb
    · have e1 : putI S at_ n F = 3 := by unfold putI; rw [if_neg (fun q => q h0), if_pos hn]
      have e2 : putS S at_ n F = S := by unfold putS; rw [if_pos (.inr hn)]
      rw [e1, e2]
      refine (write_size at_ _ n c w base M S h h0 hn hb.1).mono ?_
      rintro e w' ⟨rfl, rfl⟩
      exact ⟨rfl, Left.refl h⟩
  · have e1 : putI S at_ n F = reachI S at_ := by unfold putI; rw [if_pos h0]
    have e2 : putS S at_ n F = S := by unfold putS; rw [if_pos (.inl h0)]
    rw [e1, e2]
    refine (write_no at_ _ w base M S h h0).mono ?_
    rintro e w' ⟨rfl, rfl⟩
    exact ⟨rfl, Left.refl h⟩

theorem kind_go (k : Int) (h : -9223372036854775808 ≤ k ∧ k ≤ 9223372036854775807) : (wrap64 (k.tmod 7 + 7)).tmod 7 = (((k % 7).toNat : Nat) : Int) := by
  have e := tmod_as k 7 (by omega)
  have h2 : 0 ≤ k % (7 : Int) := Int.emod_nonneg k (by omega)
  have h3 : k % (7 : Int) < 7 := Int.emod_lt_of_pos k (by omega)
  have e0 : ((7 : Nat) : Int) = 7 := rfl
  rw [e0] at e
  obtain ⟨m, hm⟩ : ∃ m, m = k.tmod 7 := ⟨_, rfl⟩
  obtain ⟨r, hr⟩ : ∃ r, r = k % 7 := ⟨_, rfl⟩
  rw [← hm, ← hr] at e
  rw [← hr] at h2 h3
  rw [← hm, ← hr]
  clear hm hr
  have e' : (m < 0 ∧ r = m + 7) ∨ (0 ≤ m ∧ r = m) := by
    by_cases q : m < 0
    · rw [if_pos q] at e; exact .inl ⟨q, e⟩
    · rw [if_neg q] at e; exact .inr ⟨by omega, e⟩
  clear e
  have h5 : wrap64 (m + 7) = m + 7 := by unfold wrap64; omega
  rw [h5, Int.tmod_eq_emod_of_nonneg (by omega)]
  omega

def BoxIs (W : World) (b : Nat) (x : ActD) : Prop := (W.cell? ⟨b, 0, none⟩ = x.cells[0]? ∧ W.cell? ⟨b, 1, none⟩ = x.cells[1]?) ∧ W.cell? ⟨b, 2, none⟩ = x.cells[2]? ∧ W.cell? ⟨b, 3, none⟩ = x.cells[3]? ∧ W.cell? ⟨b, 4, none⟩ = x.cells[4]?
theorem Left.turns [Spare] {S' : DS} {base : Nat} {M : DM} {w w' : World} (h : Left S' base M w w') : Turns base M w w' := by
  obtain ⟨_, _, t, _, _⟩ := h
  exact t
end Go.Proofs.Ytmikemijdglgaaa
/- log.loadOf: the load of the slot that holds a change. -/
namespace Go.Proofs.Ytmikemijdglgaaa
open Go.RowKit
set_option linter.unusedVariables false

theorem run_make_cap (m : Nat) (hm : m ≤ 100000) (w : World) : (Instr.makeSlice 42 (.int .i64 9) (.int .i64 (9 + (m : Int)))).run Try.prog w = .ok (.slice (some ⟨w.heap.size, 0, none⟩) 9 (9 + m)) (w.alloc (.cells (madeCells #[.int .u8 0] (9 + m)) 5)) := by
  obtain ⟨i, hi, hzz⟩ := Option.map_eq_some_iff.1 u8info
  simp only [Prod.mk.injEq] at hzz
  obtain ⟨hz, hs, hb⟩ := hzz
  have hr := run_make (P := Try.prog) w 42 5 i (.int .u8 0) Try.underlying42 hi hz .i64 .i64 9 (9 + (m : Int)) (by omega) (by omega) (by rw [hb]; omega) (by omega)
  have e : (9 + (m : Int)).toNat = 9 + m := by omega
  simp only [e, hs, Nat.mul_one] at hr
  exact hr
/-- The front of a row of the call's own, as a slice. -/
theorem row_own {w : World} {g N n base : Nat} {F : Nat → Nat} (h : BRow w g N F) (hn : n ≤ N) (hb : base ≤ g) : OwnB w base (some ⟨g, 0, none⟩) n N F := by
  obtain ⟨⟨cur, h1, h2, h3⟩, h4, h5⟩ := h
  refine ⟨⟨by simp [cellsOfF], .inr ⟨g, N, cur, rfl, hb, h1, hn, by unfold maxLen; omega, by omega, ?_⟩⟩, fun i hi => h4 i (by omega), hn, h5, fun e => by cases e⟩
  apply List.ext_getElem?
  intro i
  unfold cellsOfF
  rw [Nat.mul_one, List.getElem?_take, List.getElem?_map]
  by_cases hi : i < n
  · rw [if_pos hi, List.getElem?_range hi, Array.getElem?_toList, h3 i (by omega)]; rfl
  · rw [if_neg hi, List.getElem?_eq_none (by simpa using hi)]; rfl
theorem load_eq (page m : Nat) (last : Bool) (G : Nat → Nat) (i : Nat) (hi : i < 9 + m) : catF (if last = true then fun j => if j = 8 then 1 else putF zeroF 0 8 page j else putF zeroF 0 8 page) 9 G i = loadF page last G i := by
  have e : i < 8 → putF zeroF 0 8 page i = leF page i := fun h => by unfold putF leF; rw [if_pos (by omega)]; simp
  have e8 : putF zeroF 0 8 page 8 = 0 := by unfold putF zeroF; rw [if_neg (by omega)]
  cases last
  · show (if i < 9 then putF zeroF 0 8 page i else G (i - 9)) = if i < 8 then leF page i else if i = 8 then 0 else G (i - 9)
    by_cases h8 : i < 8
    · rw [if_pos (by omega), if_pos h8]; exact e h8
    · by_cases h9 : i = 8
      · subst h9; rw [if_pos (by omega), if_neg (by omega), if_pos rfl]; exact e8
      · rw [if_neg (by omega), if_neg h8, if_neg h9]
  · show (if i < 9 then (if i = 8 then 1 else putF zeroF 0 8 page i) else G (i - 9)) = if i < 8 then leF page i else if i = 8 then 1 else G (i - 9)
    by_cases h8 : i < 8
    · rw [if_pos (by omega), if_pos h8, if_neg (by omega)]; exact e h8
    · by_cases h9 : i = 8
      · subst h9; simp
      · rw [if_neg (by omega), if_neg h8, if_neg h9]
set_option maxHeartbeats 2000000 in
set_option maxRecDepth 100000 in
theorem loadOf_any (page : Nat) (last : Bool) (A : Option Addr) (m c : Nat) (G : Nat → Nat) (w : World) (hp : page ≤ 9223372036854775807) (hb : Bytes w A m G) (hmc : m ≤ c) (hc : c ≤ 9223372036854775807) (hnil : A = none → c = 0) (hm : m ≤ 100000) :
    Calls Try.prog 60 #[.agg #[.int .i64 page, .slice A m c], .bool last] w fun e w' => ∃ A' c', e = .returned (.slice A' (9 + m) c') ∧ OwnB w' w.heap.size A' (9 + m) c' (loadF page last G) ∧ Below w.heap.size w w' := by
  have MK := Lib.hid (run_make_cap m hm)
  obtain ⟨W1, hW1⟩ : ∃ W1, W1 = w.alloc (.cells #[.int .i64 page, .slice A m c] 44) := ⟨_, rfl⟩
  have hz1 : W1.heap.size = w.heap.size + 1 := by rw [hW1]; simp
  have L1 := Lib.hid (show Below w.heap.size w W1 by rw [hW1]; exact (Below.refl _ _).alloc (Nat.le_refl _) _)
  have C1 := Lib.hid (show W1.cell? ⟨w.heap.size, 0, none⟩ = some (.int .i64 page) ∧ W1.cell? ⟨w.heap.size, 1, none⟩ = some (.slice A m c) by rw [hW1]; simp)
  obtain ⟨W2, hW2⟩ : ∃ W2, W2 = W1.alloc (.cells (madeCells #[.int .u8 0] (9 + m)) 5) := ⟨_, rfl⟩
  have R2 := Lib.hid (show BRow W2 W1.heap.size (9 + m) zeroF by rw [hW2]; exact BRow.made W1 (9 + m) (by omega))
  have L2 := Lib.hid (show Below W1.heap.size W1 W2 by rw [hW2]; exact (Below.refl _ _).alloc (Nat.le_refl _) _)
  have K2 := Lib.hid (show ∀ W : World, W2.grownBy W (some W1.heap.size) → W.cell? ⟨w.heap.size, 0, none⟩ = some (.int .i64 page) ∧ W.cell? ⟨w.heap.size, 1, none⟩ = some (.slice A m c) ∧ Below w.heap.size w W ∧ Bytes W A m G from fun W hg => by
    have hz2 : W2.heap.size = W1.heap.size + 1 := by rw [hW2]; simp
    have lW : Below W1.heap.size W1 W := L2.out.grown hg (by omega) (by rintro k ⟨⟩; exact Nat.le_refl _)
    have lw := L1.out.trans (lW.mono L1.out.size)
    exact ⟨(lW.cell (p := ⟨w.heap.size, 0, none⟩) (by rw [hz1]; exact Nat.lt_succ_self _)).trans C1.out.1, (lW.cell (p := ⟨w.heap.size, 1, none⟩) (by rw [hz1]; exact Nat.lt_succ_self _)).trans C1.out.2, lw, hb.below lw (Nat.le_refl _)⟩)
  have HW1 := Lib.hid hW1
  have HW2 := Lib.hid hW2
  have HZ := Lib.hid hz1
  have mk := MK.out W1
  obtain ⟨c0, c1⟩ := C1.out
  have hcm : (9 : Int) + m ≤ 9223372036854775807 := by omega
  clear hW1 hW2 hz1 hb
  go_enter Try.func60, Try.ntmps60
  go_upto_region 1 with (fail)
  rw [← HW1.out]
  obtain ⟨e0, e1, _, _⟩ := K2.out W2 (World.grownBy.refl W2 _)
  rw [HW2.out] at e0 e1
  go_wp2_with fail
  rw [← HW2.out]
  refine (put_any W1.heap.size 0 9 (9 + m) (9 + m) page zeroF W2 R2.out (by omega) (by omega) (by omega) (by omega) hp).mono ?_
  rintro e W3 ⟨rfl, b3, g3⟩
  have B3 := Lib.hid b3
  have G3 := Lib.hid g3
  clear mk c0 c1 e0 e1 b3 g3
  cases last
  · obtain ⟨d0, d1, l3, s3⟩ := K2.out _ G3.out
    have OW := Lib.hid (row_own (n := 9) (base := w.heap.size) B3.out (by omega) (by have := HZ.out; omega))
    have S3 := Lib.hid s3
    have Z3 := Lib.hid l3
    clear l3 s3
    go_wp2_with (at_builtin; refine wpList_append_bytes _ rfl (.tmp 18) (.tmp 20) 42 rfl Try.underlying42 u8info w.heap.size _ 9 (9 + m) _ rfl OW.out A m c G rfl S3.out hnil (by omega) Z3.out.size ?_)
    intro A' c' w' o1 g1 _
    have O1 := Lib.hid (o1.congr (load_eq page m false G))
    have L4 := Lib.hid (Z3.out.grown g1 Z3.out.size (by intro k hk; exact (OW.out.base_le hk).1))
    clear o1 g1 d0 d1
    go_wp2_with fail
    go_ret
    exact ⟨_, _, rfl, O1.out, L4.out⟩
  · have hc8 := B3.out.cell (i := 8) (by omega)
    have hf8 := B3.out.frozen 8
    have B4 := Lib.hid (B3.out.set_ 8 1 (by omega))
    have G4 := Lib.hid (G3.out.trans (grown_store W3 ⟨W1.heap.size, 8, none⟩ (.int .u8 1)))
    obtain ⟨d0, d1, l3, s3⟩ := K2.out _ G4.out
    have OW := Lib.hid (row_own (n := 9) (base := w.heap.size) B4.out (by omega) (by have := HZ.out; omega))
    have S3 := Lib.hid s3
    have Z3 := Lib.hid l3
    have h98 : (8 : Nat) < 9 := by omega
    clear l3 s3
    go_wp2_with (at_builtin; refine wpList_append_bytes _ rfl (.tmp 18) (.tmp 20) 42 rfl Try.underlying42 u8info w.heap.size _ 9 (9 + m) _ rfl OW.out A m c G rfl S3.out hnil (by omega) Z3.out.size ?_)
    intro A' c' w' o1 g1 _
    have O1 := Lib.hid (o1.congr (load_eq page m true G))
    have L4 := Lib.hid (Z3.out.grown g1 Z3.out.size (by intro k hk; exact (OW.out.base_le hk).1))
    clear o1 g1 d0 d1 hc8 hf8
    go_wp2_with fail
    go_ret
    exact ⟨_, _, rfl, O1.out, L4.out⟩
end Go.Proofs.Ytmikemijdglgaaa
/- log's write: groups into slots. -/
namespace Go.Proofs.Ytmikemijdglgaaa
open Go.RowKit
set_option linter.unusedVariables false

/-- A block that is none of the disk's own. -/
def AwB (M : DM) (k : Nat) : Prop := k ≠ M.p ∧ k ≠ M.bf ∧ k ≠ M.bn ∧ M.vl.ownBlock ≠ some k
structure ChOk (w : World) (M : DM) (x : ChD) : Prop where
  by_ : Bytes w x.A x.m x.F
  mc : x.m ≤ x.c
  cc : x.c ≤ 9223372036854775807
  nil_ : x.A = none → x.c = 0
  aw : ∀ b o, x.A = some ⟨b, o, none⟩ → AwB M b
theorem ChOk.turns {w w' : World} {M : DM} {x : ChD} {base : Nat} (h : ChOk w M x) (t : Turns base M w w') : Bytes w' x.A x.m x.F :=
  h.by_.keep fun b o e hn => by
    obtain ⟨a1, a2, a3, a4⟩ := h.aw b o e
    exact t.block b (h.by_.blk b o e hn) a1 a2 a3 a4
/-- A group in memory, apart from the disk. -/
structure Grp (w : World) (M : DM) (bb o n : Nat) (X : Nat → ChD) : Prop where
  lt : n ≤ 1048576
  ok : ∀ i, i < n → ChOk w M (X i)
  aw : AwB M bb
  at_ : ∀ i, i < n → ChAt w bb (o + i * 2) (X i)
theorem Turns.cell_at {w w' : World} {M : DM} {base k i : Nat} {v : Value} (t : Turns base M w w') (a : AwB M k) (h : w.cell? ⟨k, i, none⟩ = some v) : w'.cell? ⟨k, i, none⟩ = some v :=
  (World.cell?_of_block (w := w) (a := ⟨k, i, none⟩) (t.block k (cell_lt' h) a.1 a.2.1 a.2.2.1 a.2.2.2)).trans h
theorem Grp.turns {w w' : World} {M : DM} {base bb o n : Nat} {X : Nat → ChD} (h : Grp w M bb o n X) (t : Turns base M w w') (i : Nat) (hi : i < n) : ChAt w' bb (o + i * 2) (X i) :=
  ⟨t.cell_at h.aw (h.at_ i hi).c0, t.cell_at h.aw (h.at_ i hi).c1⟩
/-- The sector of a group's change. -/
def logSec (sz ep nx n : Nat) (X : Nat → ChD) (k : Nat) : Nat → Nat := secF (sz - 20) (mkN ep (nx + k)) (9 + (X k).m) (loadF (X k).page.toNat (decide (k + 1 = n)) (X k).F)
/-- What is written, k sectors far; what is told of the k-th. -/
def wrS (at0 sz : Nat) (sec : Nat → Nat → Nat) (S : DS) : Nat → DS
  | 0 => S
  | k + 1 => putS (wrS at0 sz sec S k) ((at0 + k : Nat) : Int) sz (sec k)
def wrI (at0 sz : Nat) (sec : Nat → Nat → Nat) (S : DS) (k : Nat) : Int := putI (wrS at0 sz sec S k) ((at0 + k : Nat) : Int) sz (sec k)
theorem putS_len (S : DS) (a : Int) (n : Nat) (F : Nat → Nat) : (putS S a n F).loose.length ≤ S.loose.length + 1 := by
  unfold putS
  split
  · omega
  · rw [strikeS_loose]; simp [keepS]
theorem putS_sz (S : DS) (a : Int) (n : Nat) (F : Nat → Nat) : (putS S a n F).size = S.size := by
  unfold putS
  split
  · rfl
  · rw [strikeS_size]; rfl
theorem wrS_len (at0 sz : Nat) (sec : Nat → Nat → Nat) (S : DS) : ∀ k, (wrS at0 sz sec S k).loose.length ≤ S.loose.length + k
  | 0 => Nat.le_refl _
  | k + 1 => by
    have := wrS_len at0 sz sec S k
    have := putS_len (wrS at0 sz sec S k) ((at0 + k : Nat) : Int) sz (sec k)
    show (putS _ _ _ _).loose.length ≤ _
    omega
theorem wrS_sz (at0 sz : Nat) (sec : Nat → Nat → Nat) (S : DS) : ∀ k, (wrS at0 sz sec S k).size = S.size
  | 0 => rfl
  | k + 1 => (putS_sz _ _ _ _).trans (wrS_sz at0 sz sec S k)
/-- What write tells and leaves. -/
def WrP [Spare] (at0 sz n : Nat) (sec : Nat → Nat → Nat) (base : Nat) (M : DM) (S : DS) (w : World) (e : Ending) (w' : World) : Prop :=
  (∃ k, k < n ∧ (∀ j, j < k → wrI at0 sz sec S j = 0) ∧ wrI at0 sz sec S k ≠ 0 ∧ e = .returned (.int .i64 (wrI at0 sz sec S k)) ∧ Left (wrS at0 sz sec S (k + 1)) base M w w') ∨
    (∀ j, j < n → wrI at0 sz sec S j = 0) ∧ e = .returned (.int .i64 (flushI (wrS at0 sz sec S n))) ∧ Left (flushD (wrS at0 sz sec S n)) base M w w'
set_option maxHeartbeats 4000000 in
set_option maxRecDepth 100000 in
theorem lwrite_any [Spare] (b f cn ep nx : Nat) (dead : Bool) (bb o n c : Nat) (X : Nat → ChD) (w : World) (base : Nat) (M : DM) (S : DS) (h : Dsk w base M S) (hbase : base ≤ w.heap.size) (hL : S.loose.length + n < 1000000)
    (hl : w.heap[b]? = some (.cells (lgCells M.p f cn ep nx dead) 85 (0, 0))) (hab : AwB M b) (hf : f ≤ 1048576) (hnx : nx + n ≤ 1048576) (he1 : 1 ≤ ep) (he2 : ep ≤ 1099511627776) (hG : Grp w M bb o n X) (hm : ∀ i, i < n → (X i).m + 45 = S.size) (hp : ∀ i, i < n → pageB (X i)) :
    Calls Try.prog 40 #[.pointer (some ⟨b, 0, none⟩), .slice (some ⟨bb, o, none⟩) n c] w (WrP (f + nx) S.size n (logSec S.size ep nx n X) base M S w) := by
  have hS := h.hS
  obtain ⟨sec, hsec⟩ : ∃ sec, sec = logSec S.size ep nx n X := ⟨_, rfl⟩
  rw [← hsec]
  have HSec := Lib.hid hsec
  have q0 : w.cell? ⟨b, 0, none⟩ = some (.pointer (some ⟨M.p, 0, none⟩)) := by simp [World.cell?, hl, lgCells]
  have q1 : w.cell? ⟨b, 1, none⟩ = some (.int .i64 (f : Int)) := by simp [World.cell?, hl, lgCells]
  have q3 : w.cell? ⟨b, 3, none⟩ = some (.int .i64 (ep : Int)) := by simp [World.cell?, hl, lgCells]
  have q4 : w.cell? ⟨b, 4, none⟩ = some (.int .i64 (nx : Int)) := by simp [World.cell?, hl, lgCells]
  have KC := Lib.hid (show ∀ W, Turns base M w W → W.cell? ⟨b, 0, none⟩ = some (.pointer (some ⟨M.p, 0, none⟩)) ∧ W.cell? ⟨b, 1, none⟩ = some (.int .i64 (f : Int)) ∧ W.cell? ⟨b, 3, none⟩ = some (.int .i64 (ep : Int)) ∧ W.cell? ⟨b, 4, none⟩ = some (.int .i64 (nx : Int)) from fun W t => ⟨t.cell_at hab q0, t.cell_at hab q1, t.cell_at hab q3, t.cell_at hab q4⟩)
  have HH := Lib.hid h
  have HG := Lib.hid hG
  have HM := Lib.hid hm
  have HP := Lib.hid hp
  have hn := hG.lt
  clear h hl q0 q1 q3 q4 hG hm hp hsec
  go_enter Try.func40, Try.ntmps40
  go_wp2
  go_loopw [14] (fun i wr => ∃ k : Nat, i = .int .i64 k ∧ k ≤ n ∧ (∀ j, j < k → wrI (f + nx) S.size sec S j = 0) ∧ Left (wrS (f + nx) S.size sec S k) base M w wr) (fun i _ => n - (intOf i).toNat)
  case atStart => exact ⟨0, rfl, by omega, fun j hj => by omega, Left.refl HH.out⟩
  case round =>
    obtain ⟨k, rfl, hk, ha, hB⟩ := hrel
    obtain ⟨wo, hwo⟩ : ∃ wo, wo = wr := ⟨_, rfl⟩
    subst hwo
    obtain ⟨v', d, t, kb, ow⟩ := hB
    have D := Lib.hid d
    have T := Lib.hid t
    have KB := Lib.hid kb
    have OW := Lib.hid ow
    have HA := Lib.hid ha
    clear d t kb ow ha
    by_cases hlt : k < n
    · obtain ⟨d0, d1⟩ := HG.out.turns T.out k hlt
      have hOK := HG.out.ok k hlt
      have hBy := hOK.turns T.out
      have hM := HM.out k hlt
      have hPg := HP.out k hlt
      obtain ⟨x, hx⟩ : ∃ x, x = X k := ⟨_, rfl⟩
      rw [← hx] at d0 d1 hOK hBy hM hPg
      have hkI : (k : Int) < n := by omega
      have HXK := Lib.hid hx
      obtain ⟨pg, hpg⟩ : ∃ pg : Nat, pg = x.page.toNat := ⟨_, rfl⟩
      have hpe : x.page = (pg : Int) := by have := hPg.1; omega
      have hpl : pg ≤ 2147483647 := by have := hPg.2; omega
      rw [hpe] at d0
      obtain ⟨xp, xA, xm, xc, xF⟩ := x
      dsimp only at d0 d1 hM hBy hpe hpg
      subst hpe
      have TA := Lib.hid (show Turns base M w (wo.alloc (.cells #[.int .i64 (pg : Int), .slice xA xm xc] 44)) from T.out.trans (Turns.of_below ((Below.refl _ _).alloc (Nat.le_refl _) _)))
      obtain ⟨g0, g1, g3, g4⟩ := KC.out _ TA.out
      clear hx
      have HO := Lib.hid hOK
      have HY := Lib.hid hBy
      have HN := Lib.hid hpg
      clear hOK hBy hPg hpg
      go_wp2_with fail
      have hlast : ((k : Int) == (n : Int) - 1) = decide (k + 1 = n) := by
        rcases Nat.lt_or_ge (k + 1) n with q | q
        · rw [decide_eq_false (by omega)]; simp; omega
        · rw [decide_eq_true (by omega)]; simp; omega
      rw [hlast]
      refine (loadOf_any pg _ xA xm xc xF _ (by omega) (HY.out.below ((Below.refl _ _).alloc (Nat.le_refl _) _) (Nat.le_refl _)) HO.out.mc HO.out.cc HO.out.nil_ (by omega)).mono ?_
      rintro e w3 ⟨A', c', rfl, o3, l3⟩
      have L3 := Lib.hid (((Below.refl wo.heap.size wo).alloc (Nat.le_refl _) (.cells #[.int .i64 (pg : Int), .slice xA xm xc] 44)).trans (l3.mono (by simp)))
      have O3 := Lib.hid o3.bytes
      have KS := Lib.hid (show ∀ W, Below w3.heap.size w3 W → Calls Try.prog 50 #[.pointer (some ⟨M.p, 0, none⟩)] W fun e w' => e = .returned (.int .i64 (S.size : Int)) ∧ W = w' from fun W l => by
        have q := size_any W base { M with vl := v' } _ (D.out.below (L3.out.trans (l.mono L3.out.size)))
        rw [wrS_sz] at q
        exact q)
      have T3 := Lib.hid (T.out.trans (Turns.of_below (base := base) (M := M) L3.out))
      clear l3 o3 g0 g1 g3 g4 hlast
      obtain ⟨g0, g1, g3, g4⟩ := KC.out _ T3.out
      have hm45 : xm + 45 = S.size := hM
      have hmk : ((nx : Int) + (k : Int)) = ((nx + k : Nat) : Int) := by omega
      have KM := Lib.hid (show ∀ W, Calls Try.prog 62 #[.int .i64 (ep : Int), .int .i64 ((nx : Int) + (k : Int))] W fun e w' => e = .returned (.int .i64 ((mkN ep (nx + k) : Nat) : Int)) ∧ W = w' from fun W => by rw [hmk]; exact markOf_any ep (nx + k) W he2 (by omega))
      have KB6 := Lib.hid (show ∀ W, Below w3.heap.size w3 W → Calls Try.prog 61 #[.int .i64 (S.size : Int), .int .i64 ((mkN ep (nx + k) : Nat) : Int), .slice A' (9 + xm) c'] W fun e w' => e = .returned (.tuple #[.slice (some ⟨W.heap.size, 0, none⟩) S.size S.size, .int .i64 0]) ∧ BRow w' W.heap.size S.size (secF (S.size - 20) (mkN ep (nx + k)) (9 + xm) (loadF pg (decide (k + 1 = n)) xF)) ∧ Below W.heap.size W w' from fun W l => build_ok S.size (S.size - 20) (mkN ep (nx + k)) (9 + xm) c' A' _ W (by omega) (by omega) (by omega) (by omega) (by unfold mkN; omega) (by unfold mkN; omega) (by omega) (O3.out.below l (Nat.le_refl _)))
      have hb3 : b < w3.heap.size := cell_lt' g0
      clear hmk
      go_wp2_with fail
      go_region_held_law (fun W => W.cell? ⟨b, 0, none⟩ = some (.pointer (some ⟨M.p, 0, none⟩)) ∧ W.cell? ⟨b, 3, none⟩ = some (.int .i64 (ep : Int)))
        (first | exact ⟨p0, p3⟩ | exact ⟨g0, g3⟩ | go_keep)
        (first
          | (go_at_call 50; refine (KS.out _ (by first | exact Below.refl _ _ | exact (Below.refl _ _).drew)).mono ?_; rintro e W5 ⟨rfl, rfl⟩)
          | (go_at_call 62; refine (KM.out _).mono ?_; rintro e W5 ⟨rfl, rfl⟩)
          | (go_at_call 61; refine (KB6.out _ (by first | exact Below.refl _ _ | exact (Below.refl _ _).drew)).mono ?_; rintro e W6 ⟨rfl, r6, l6⟩; have p0 := (l6.cell (p := ⟨b, 0, none⟩) hb3).trans g0; have p3 := (l6.cell (p := ⟨b, 3, none⟩) hb3).trans g3))
      have L6 := Lib.hid (L3.out.trans (Below.mono (show Below w3.heap.size w3 W6 from by first | exact l6 | exact (Below.refl _ _).drew.trans l6) L3.out.size))
      have R6 := Lib.hid (show BRow W6 w3.heap.size S.size (secF (S.size - 20) (mkN ep (nx + k)) (9 + xm) (loadF pg (decide (k + 1 = n)) xF)) from r6)
      clear l6 r6 p0 p3 g0 g1 g3 g4
      have hsk : sec k = secF (S.size - 20) (mkN ep (nx + k)) (9 + xm) (loadF pg (decide (k + 1 = n)) xF) := by
        rw [HSec.out]; unfold logSec; rw [← HXK.out]; rfl
      have RB := Lib.hid (show Bytes W6 (some ⟨w3.heap.size, 0, none⟩) S.size (sec k) by rw [hsk]; exact (R6.out.bytes (by omega : 0 + S.size ≤ S.size)).congr fun i _ => by rw [Nat.zero_add])
      have KW := Lib.hid (show ∀ W, Below W6.heap.size W6 W → Calls Try.prog 26 #[.pointer (some ⟨M.p, 0, none⟩), .int .i64 (IntKind.i64.wrap ((f : Int) + ((nx : Int) + (k : Int)))), .slice (some ⟨w3.heap.size, 0, none⟩) S.size S.size] W fun e w' => e = .returned (.int .i64 (wrI (f + nx) S.size sec S k)) ∧ Left (wrS (f + nx) S.size sec S (k + 1)) base M w w' from fun W l => by
        rw [show IntKind.i64.wrap ((f : Int) + ((nx : Int) + (k : Int))) = ((f + nx + k : Nat) : Int) by rw [IntKind.wrap_i64]; omega]
        have lW := L6.out.trans (l.mono L6.out.size)
        refine (write_any _ _ _ _ _ (sec k) W base { M with vl := v' } _ (D.out.below lW) (Nat.le_trans hbase (Nat.le_trans T.out.size lW.size)) (by have := wrS_len (f + nx) S.size sec S k; omega) (RB.out.below l (Nat.le_refl _))).mono ?_
        rintro e w' ⟨he, hl⟩
        exact ⟨he, Left.trans T.out KB.out OW.out (Left.behind lW hl)⟩)
      clear hsk
      obtain ⟨I, hI⟩ : ∃ I, I = wrI (f + nx) S.size sec S k := ⟨_, rfl⟩
      rw [← hI] at KW
      have HI := Lib.hid hI
      obtain ⟨g0, g1, g3, g4⟩ := KC.out _ (T.out.trans (Turns.of_below (base := base) (M := M) L6.out))
      clear hI
      go_wp2_with fail
      go_region_held_law (fun W => W.cell? ⟨b, 0, none⟩ = some (.pointer (some ⟨M.p, 0, none⟩)) ∧ W.cell? ⟨b, 1, none⟩ = some (.int .i64 (f : Int)))
        (first | exact ⟨p0, p1⟩ | exact ⟨g0, g1⟩ | go_keep)
        (first
          | (go_at_call 26; with_reducible refine (KW.out _ (Below.refl _ _).drew).mono ?_; rintro e W8 ⟨rfl, l8⟩; obtain ⟨p0, p1, _, _⟩ := KC.out W8 l8.turns))
      have L8 := Lib.hid l8
      clear l8 p0 p1 g0 g1 g3 g4
      by_cases hz : I = 0
      · have hzb : (I != 0) = false := by simp [hz]
        have HZ := Lib.hid hz
        clear hz
        go_wp2
        go_roundw
        case rel => exact ⟨k + 1, by first | rfl | go_num, by omega, fun j hj => by
            rcases Nat.lt_or_ge j k with q | q
            · exact HA.out j q
            · obtain rfl : j = k := by omega
              rw [← HI.out]; exact HZ.out, L8.out⟩
        case measure => simp [intOf]; omega
      · have hzb : (I != 0) = true := by simpa using hz
        have HZ := Lib.hid hz
        clear hz
        go_wp2
        go_ret
        exact .inl ⟨k, hlt, HA.out, by rw [← HI.out]; exact HZ.out, by rw [← HI.out]; rfl, L8.out⟩
    · have hge : ¬ (k : Int) < n := by omega
      have e : k = n := by omega
      subst e
      obtain ⟨g0, _, _, _⟩ := KC.out _ T.out
      have KF := Lib.hid (flush_any wo base { M with vl := v' } _ D.out)
      go_wp2_with (go_at_call 52; refine KF.out.mono ?_; rintro e w' ⟨rfl, l⟩; have L := Lib.hid l; clear l)
      go_ret
      exact .inr ⟨HA.out, rfl, Left.trans T.out KB.out OW.out L.out⟩
end Go.Proofs.Ytmikemijdglgaaa
/- log's Append. -/
namespace Go.Proofs.Ytmikemijdglgaaa
open Go.RowKit
set_option linter.unusedVariables false

theorem Grp.below {w w' : World} {M : DM} {bb o n : Nat} {X : Nat → ChD} (h : Grp w M bb o n X) (l : Below w.heap.size w w') : Grp w' M bb o n X :=
  ⟨h.lt, fun i hi => ⟨(h.ok i hi).by_.below l (Nat.le_refl _), (h.ok i hi).mc, (h.ok i hi).cc, (h.ok i hi).nil_, (h.ok i hi).aw⟩, h.aw, fun i hi => ⟨kept_l l (cell_lt' (h.at_ i hi).c0) (h.at_ i hi).c0, kept_l l (cell_lt' (h.at_ i hi).c1) (h.at_ i hi).c1⟩⟩
theorem Grp.chs {w : World} {M : DM} {bb o n : Nat} {X : Nat → ChD} (h : Grp w M bb o n X) : Chs w (some ⟨bb, o, none⟩) n X :=
  ⟨by have := h.lt; omega, fun i hi => (h.ok i hi).by_.1, fun _ => ⟨bb, o, rfl, h.at_⟩⟩
theorem refuse_zero {dead : Bool} {n : Nat} {X : Nat → ChD} {room left : Int} (h : refuseI dead n X room left = 0) : dead = false ∧ 1 ≤ n ∧ (∀ i, i < n → pageB (X i)) ∧ (∀ i, i < n → ((X i).m : Int) = room) ∧ (n : Int) ≤ left := by
  unfold refuseI at h
  split at h
  · cases h
  split at h
  · cases h
  split at h
  · cases h
  split at h
  · cases h
  split at h
  · cases h
  rename_i h1 h2 h3 h4 h5
  exact ⟨by simpa using h1, by omega, fun i hi => Classical.byContradiction fun q => h3 ⟨i, hi, q⟩, fun i hi => Classical.byContradiction fun q => h4 ⟨i, hi, q⟩, by omega⟩
/-- What Append tells and leaves. -/
def AppP [Spare] (b f cn ep nx : Nat) (dead : Bool) (n : Nat) (X : Nat → ChD) (base : Nat) (M : DM) (S : DS) (w : World) (e : Ending) (w' : World) : Prop :=
  (refuseI dead n X ((S.size : Int) - 45) ((cn : Int) - nx) ≠ 0 ∧ e = .returned (.int .i64 (refuseI dead n X ((S.size : Int) - 45) ((cn : Int) - nx))) ∧ Below w.heap.size w w') ∨
    (refuseI dead n X ((S.size : Int) - 45) ((cn : Int) - nx) = 0 ∧ ∃ w1 w8 I, Below w.heap.size w w1 ∧ WrP (f + nx) S.size n (logSec S.size ep nx n X) base M S w1 (.returned (.int .i64 I)) w8 ∧ e = .returned (.int .i64 I) ∧
      (I = 0 ∧ w' = w8.setCell ⟨b, 4, none⟩ (.int .i64 ((nx : Int) + n)) ∨ I ≠ 0 ∧ w' = w8.setCell ⟨b, 5, none⟩ (.bool true)))
theorem WrP.told [Spare] {at0 sz n base : Nat} {sec : Nat → Nat → Nat} {M : DM} {S : DS} {w w' : World} {e : Ending} (h : WrP at0 sz n sec base M S w e w') : (∃ I, e = .returned (.int .i64 I)) ∧ Turns base M w w' := by
  rcases h with ⟨k, _, _, _, rfl, l⟩ | ⟨_, rfl, l⟩
  · exact ⟨⟨_, rfl⟩, l.turns⟩
  · exact ⟨⟨_, rfl⟩, l.turns⟩
set_option maxHeartbeats 2000000 in
set_option maxRecDepth 100000 in
theorem append_any [Spare] (b f cn ep nx : Nat) (dead : Bool) (bb o n c : Nat) (X : Nat → ChD) (w : World) (base : Nat) (M : DM) (S : DS) (h : Dsk w base M S) (hbase : base ≤ w.heap.size) (hL : S.loose.length + n < 1000000)
    (hl : w.heap[b]? = some (.cells (lgCells M.p f cn ep nx dead) 85 (0, 0))) (hab : AwB M b) (hf : f ≤ 1048576) (hcn : cn ≤ 1048576) (hnx : nx ≤ cn) (he1 : 1 ≤ ep) (he2 : ep ≤ 1099511627776) (hG : Grp w M bb o n X) :
    Calls Try.prog 17 #[.pointer (some ⟨b, 0, none⟩), .slice (some ⟨bb, o, none⟩) n c] w (AppP b f cn ep nx dead n X base M S w) := by
  have hb : b < w.heap.size := (Array.getElem?_eq_some_iff.1 hl).1
  have KR := Lib.hid (refuse_any b f cn ep nx dead (some ⟨bb, o, none⟩) n c X w base M S h hl (by omega) (by omega) (by omega) (by omega) hG.chs)
  obtain ⟨R, hR⟩ : ∃ R, R = refuseI dead n X ((S.size : Int) - 45) ((cn : Int) - nx) := ⟨_, rfl⟩
  rw [← hR] at KR
  have HR := Lib.hid hR
  have HH := Lib.hid h
  have HL := Lib.hid hl
  have HG := Lib.hid hG
  have hn := hG.lt
  clear h hl hG hR
  go_enter Try.func17, Try.ntmps17
  go_wp2_with fail
  refine KR.out.mono ?_
  rintro e w1 ⟨rfl, l1⟩
  have L1 := Lib.hid l1
  clear l1
  by_cases hz : R = 0
  case neg =>
    have hzb : (R != 0) = true := by simpa using hz
    have HZ := Lib.hid (show refuseI dead n X ((S.size : Int) - 45) ((cn : Int) - nx) ≠ 0 by rw [← HR.out]; exact hz)
    clear hz
    go_wp2
    go_ret
    exact .inl ⟨HZ.out, by rw [← HR.out]; rfl, L1.out⟩
  subst hz
  obtain ⟨z1, z2, z3, z4, z5⟩ := refuse_zero HR.out.symm
  subst z1
  have KW := Lib.hid (lwrite_any b f cn ep nx false bb o n c X w1 base M S (HH.out.below L1.out) (Nat.le_trans hbase L1.out.size) hL ((L1.out.block b hb).trans HL.out) hab hf (by omega) he1 he2 (HG.out.below L1.out) (fun i hi => by have := z4 i hi; omega) z3)
  have Z5 := z5
  clear z3 z4 z5
  go_wp2_with fail
  refine KW.out.mono ?_
  rintro e w8 hw
  obtain ⟨⟨I, rfl⟩, t8⟩ := hw.told
  have HW := Lib.hid hw
  have hl8 := (t8.block b (Nat.lt_of_lt_of_le hb L1.out.size) hab.1 hab.2.1 hab.2.2.1 hab.2.2.2).trans ((L1.out.block b hb).trans HL.out)
  have q4 : w8.cell? ⟨b, 4, none⟩ = some (.int .i64 (nx : Int)) := by simp [World.cell?, hl8, lgCells]
  have q5 : w8.cell? ⟨b, 5, none⟩ = some (.bool false) := by simp [World.cell?, hl8, lgCells]
  have s4 : w8.frozen? ⟨b, 4, none⟩ = false := by simp [World.frozen?, hl8]
  have s5 : w8.frozen? ⟨b, 5, none⟩ = false := by simp [World.frozen?, hl8]
  clear hw t8 hl8
  by_cases hI : I = 0
  · subst hI
    have hw4 : IntKind.i64.wrap ((nx : Int) + (n : Int)) = (nx : Int) + n := by rw [IntKind.wrap_i64]; omega
    go_wp2
    go_ret
    exact .inr ⟨HR.out.symm, w1, w8, 0, L1.out, HW.out, rfl, .inl ⟨rfl, rfl⟩⟩
  · have hzb : (I != 0) = true := by simpa using hI
    go_wp2
    go_ret
    exact .inr ⟨HR.out.symm, w1, w8, I, L1.out, HW.out, rfl, .inr ⟨hI, rfl⟩⟩
end Go.Proofs.Ytmikemijdglgaaa
/- log's slots: the iterator that it hands back. -/
namespace Go.Proofs.Ytmikemijdglgaaa
open Go.RowKit
set_option linter.unusedVariables false

theorem slots_any (p : Nat) (first count : Int) (w : World) :
    Calls Try.prog 36 #[.agg #[.pointer (some ⟨p, 0, none⟩), .int .i64 first, .int .i64 count]] w fun e w' =>
      e = .returned (.func (.func 57) #[] #[.pointer (some ⟨w.heap.size, 0, none⟩)]) ∧ w' = w.alloc (.cells #[.pointer (some ⟨p, 0, none⟩), .int .i64 first, .int .i64 count] 80) := by
  go_enter Try.func36, Try.ntmps36
  go_wp2
  go_ret
  exact ⟨rfl, rfl⟩
/-- What a slot's read of the disk tells: its bytes, or the disk's error. -/
def slotI (S : DS) (first k : Nat) : Int := reachI S ((first + k : Nat) : Int)
end Go.Proofs.Ytmikemijdglgaaa
/- A loop over an iterator whose elements carry memory that the iterator lays in the very round: what it owes of an element's memory at each yield (Y) is told to the body. No word of any package. -/
namespace Go.Proofs.Ytmikemijdglgaaa
open Go Go.RowKit
set_option linter.unusedVariables false

/-- A loop's two blocks: its own, and ahead of it the one for the rounds' deferred calls (none). -/
def Bk (D : Nat) (r : Loop) (W : World) : Prop := W.heap[D + 1]? = some (.loop r) ∧ W.heap[D]? = some (.deferred (some []))
variable {P : Program} {F : Fence} {D m : Nat} {r r' : Loop} {W W' : World}
theorem Bk.put (h : Bk D r W) (r' : Loop) : Bk D r' (W.putObj (D + 1) (.loop r')) :=
  ⟨World.putObj_heap_same (Array.getElem?_eq_some_iff.1 h.1).1, (World.putObj_heap_other (by omega)).trans h.2⟩
theorem Bk.others (h : Bk D r W) (k : KeepsOthers W W') : Bk D r W' := ⟨k.same _ _ h.1 rfl, k.same _ _ h.2 rfl⟩
theorem Bk.grown {row : Option Nat} (h : Bk D r W) (hg : W.grownBy W' row) (hr : ∀ q, row = some q → ∃ o : Obj, W.heap[q]? = some o ∧ o.isWalk = true) : Bk D r W' :=
  ⟨(grownBy_keeps hg hr h.1 rfl).trans h.1, (grownBy_keeps hg hr h.2 rfl).trans h.2⟩
theorem Bk.made (W : World) (r : Loop) : Bk W.heap.size r ((W.alloc (.deferred (some []))).alloc (.loop r)) := by
  constructor
  · have := World.alloc_heap_new (W.alloc (.deferred (some []))) (.loop r)
    rwa [World.size_alloc] at this
  · exact (Below.heap_alloc _ _ _ (by simp)).trans (World.alloc_heap_new W _)
/-- One round of a loop that is ready. -/
theorem bk_round {ps : Array Tmp} {tmps : Array Value} {assign body : Code} {fn : FuncId} (e1 : r.params = ps) (e2 : r.tmps = tmps) (e3 : r.assign = assign) (e4 : r.body = body) (e5 : r.fn = fn) (hb : Bk D r W) (hs : r.state = .ready) (hfn : F.fn fn) {args : Array Value} (hsz : args.size = ps.size) {a₁ : Act} {Q : Exit → Act → World → Prop} {R : Ending → World → Prop}
    (hassign : ∀ K : Act → World → Prop, K a₁ W → assign.wpIn (F.inRound (D + 1)) m P (Exit.then K (fun _ _ _ => False)) { tmps := (ps.zip args).foldl (fun t (p, v) => t.setIfInBounds p v) tmps, defers := [] } W)
    (hbody : body.wpIn (F.inRound (D + 1)) m P Q a₁ (W.putObj (D + 1) (.loop { r with state := .busy })))
    (hnorm : ∀ a' W', Q .normal a' W' → KeepsOthers (W.putObj (D + 1) (.loop { r with state := .busy })) W' ∧ R (.returned (.bool true)) (W'.putObj (D + 1) (.loop { r with state := .ready, pending := none })))
    (hret : ∀ a' W', Q .ret a' W' → KeepsOthers (W.putObj (D + 1) (.loop { r with state := .busy })) W' ∧ R (.returned (.bool false)) (W'.putObj (D + 1) (.loop { r with state := .done, pending := some .ret })))
    (hexit : ∀ id a' W', Q (.exit id) a' W' → KeepsOthers (W.putObj (D + 1) (.loop { r with state := .busy })) W' ∧ R (.returned (.bool false)) (W'.putObj (D + 1) (.loop { r with state := .done, pending := some (.exit id) })))
    (hno : ∀ e a' W', Q e a' W' → e = .normal ∨ e = .ret ∨ ∃ id, e = .exit id) : YieldAt F m P (D + 1) args W R := by
  subst e1 e2 e3 e4 e5
  refine ⟨r.fn, _, r.assign, r.body, run_yield hb.1 hsz, roundIn_of_wpIn hfn (hassign _ ⟨_, run_beginRound hb.1 hs, wpIn_mono hbody ?_⟩)⟩
  have hb2 := hb.put { r with state := .busy }
  intro e a' W' hq
  rcases hno e a' W' hq with rfl | rfl | ⟨id, rfl⟩
  · obtain ⟨hk, hR⟩ := hnorm a' W' hq
    exact ⟨_, _, run_endRound none (hb2.others hk).1, hR⟩
  · obtain ⟨hk, hR⟩ := hret a' W' hq
    exact ⟨_, _, run_endRound (some .ret) (hb2.others hk).1, hR⟩
  · obtain ⟨hk, hR⟩ := hexit id a' W' hq
    exact ⟨_, _, run_endRound (some (.exit id)) (hb2.others hk).1, hR⟩
/-- The contract of an iterator that owes Y of each element at its yield. -/
def SeqMem {α : Type} (F : Fence) (n : Nat) (P : Program) (g : Nat) (lb : Array Value) (encs : α → Array Value) (Y : α → World → Prop) (Kp : World → World → Prop) (S Sp : List α → Prop) (N : Nat) (w : World) : Prop :=
  ∀ (l : Nat) (J Jx : List α → World → Prop) (W : World), Below w.heap.size w W → AbidesFrom W.heap.size J → AbidesFrom W.heap.size Jx →
    (∀ pre x W1, J pre W1 → Y x W1 → pre.length < N → YieldAt F (n - 1) P l (encs x) W1 fun e W' =>
      (e = .returned (.bool true) ∧ J (pre ++ [x]) W' ∧ Kp W1 W') ∨ (e = .returned (.bool false) ∧ Jx (pre ++ [x]) W')) →
    J [] W →
    CallsIn F n P g (#[.func (.yield l) #[] #[]] ++ lb) W fun e W' => (∃ v, e = .returned v) ∧ ((∃ xs, S xs ∧ J xs W') ∨ (∃ pre, Sp pre ∧ Jx pre W'))
set_option maxHeartbeats 300000 in
/-- The loop over it. How a round may be left: it goes on, returns, or leaves a block. -/
theorem SeqMem.loop {α : Type} {n : Nat} {g : Operand} {ps : Array Tmp} {assign body : Code} {Q : Exit → Act → World → Prop} {a : Act} {w : World}
    (hro : F.round = none) (h1 : 1 ≤ n) {gf : Nat} {lb : Array Value} (hg : a.eval g = .func (.func gf) #[] lb) (hFg : F.fn gf) (eg : ∀ args w, (callFunc gf args).run P w = .ok (.enter gf args) w)
    {encs : α → Array Value} {Y : α → World → Prop} {Kp : World → World → Prop} {S Sp : List α → Prop} {N : Nat} {w0 : World} (hseq : SeqMem F (n - 1) P gf lb encs Y Kp S Sp N w0)
    (hKt : ∀ {A B C : World}, Kp A B → Kp B C → Kp A C) (hKb : ∀ (W : World) (l : Nat) (o o' : Obj), w.heap.size ≤ l → W.heap[l]? = some o → o.isCells = false → o.isWalk = false → Kp W (W.putObj l o'))
    (hY : Own Y) (hb0 : Below w0.heap.size w0 w) (hps : ∀ x, (encs x).size = ps.size)
    (I : List α → World → Prop) (Ix : Code → List α → World → Prop) (hI : Own I) (hIx : ∀ c, Own (Ix c)) (h0 : I [] w) (a₁ : α → Act)
    (hassign : ∀ (l : Nat) (x : α) (W : World) (K : Act → World → Prop), K (a₁ x) W →
      assign.wpIn (F.inRound l) (n - 1 - 1) P (Exit.then K (fun _ _ _ => False)) { tmps := (ps.zip (encs x)).foldl (fun t (p, v) => t.setIfInBounds p v) a.tmps, defers := [] } W)
    (BP : List α → World → Exit → Act → World → Prop)
    (hbody : ∀ (l : Nat) (pre : List α) (x : α) (W : World), I pre W → Y x W → pre.length < N → body.wpIn (F.inRound l) (n - 1 - 1) P (BP (pre ++ [x]) W) (a₁ x) W)
    (hBn : ∀ xs W a' W', BP xs W .normal a' W' → KeepsOthers W W' ∧ Kp W W' ∧ I xs W')
    (hBr : ∀ xs W a' W', BP xs W .ret a' W' → KeepsOthers W W' ∧ Ix .ret xs W')
    (hBe : ∀ xs W id a' W', BP xs W (.exit id) a' W' → KeepsOthers W W' ∧ Ix (.exit id) xs W')
    (hBo : ∀ xs W e a' W', BP xs W e a' W' → e = .normal ∨ e = .ret ∨ ∃ id, e = .exit id)
    (hdone : ∀ (D : Nat) (xs : List α) (W : World), S xs → I xs W → W.heap[D]? = some (.deferred (some [])) → Q .normal { a with defers := { target := .collected D, args := #[] } :: a.defers } W)
    (hstop : ∀ (D : Nat) (c : Code) (pre : List α) (W : World), Sp pre → Ix c pre W → W.heap[D]? = some (.deferred (some [])) → c.wpIn F n P Q { a with defers := { target := .collected D, args := #[] } :: a.defers } W) :
    (Code.rangeFunc g ps assign body).wpIn F n P Q a w := by
  refine wpIn_rangeFunc fun fn hfn => ?_
  rw [hro]
  obtain ⟨rec0, hrec⟩ : ∃ r : Loop, r = { state := .ready, pending := none, fn := fn, tmps := a.tmps, params := ps, assign := assign, body := body, defers := w.heap.size } := ⟨_, rfl⟩
  have f0 : rec0.state = .ready := by rw [hrec]
  have f6 : rec0.pending = none := by rw [hrec]
  have f1 : rec0.params = ps := by rw [hrec]
  have f2 : rec0.tmps = a.tmps := by rw [hrec]
  have f3 : rec0.assign = assign := by rw [hrec]
  have f4 : rec0.body = body := by rw [hrec]
  have f5 : rec0.fn = fn := by rw [hrec]
  have f7 : { rec0 with state := .ready, pending := none } = rec0 := by rw [hrec]
  obtain ⟨W1, hW1⟩ : ∃ W1, W1 = (w.alloc (.deferred (some []))).alloc (.loop rec0) := ⟨_, rfl⟩
  have hB1 : Bk w.heap.size rec0 W1 := by rw [hW1]; exact Bk.made w rec0
  have hI1 : I [] W1 := by rw [hW1]; exact hI.alloc _ (hI.alloc _ h0)
  have hb1 : Below w0.heap.size w0 W1 := by
    rw [hW1]
    exact hb0.trans ((((Below.refl _ w).alloc (Nat.le_refl _) _).alloc (by simp) _).mono hb0.size)
  have cells : ∀ {A : World} {row : Option Nat}, (∀ q, row = some q → W1.heap.size ≤ q ∧ ∃ o : Obj, A.heap[q]? = some o ∧ o.isWalk = true) → ∀ q, row = some q → ∃ o : Obj, A.heap[q]? = some o ∧ o.isCells = false :=
    fun h q e => by obtain ⟨_, o, ho, hw⟩ := h q e; exact ⟨o, ho, Obj.not_cells_of_walk hw⟩
  have call := hseq (w.heap.size + 1) (fun pre W => I pre W ∧ Bk w.heap.size rec0 W) (fun pre W => ∃ c, Ix c pre W ∧ Bk w.heap.size { rec0 with state := .done, pending := some c } W) W1 hb1
    (fun s A B row hs hgr hr => ⟨hI s A B row hs.1 hgr (cells hr), hs.2.grown hgr fun q e => (hr q e).2⟩)
    (fun s A B row hs hgr hr => by
      obtain ⟨c, hc, hk⟩ := hs
      exact ⟨c, hIx c s A B row hc hgr (cells hr), hk.grown hgr fun q e => (hr q e).2⟩)
    (fun pre x W ⟨hi, hk⟩ hy hlen => by
      have hbusy : Kp W (W.putObj (w.heap.size + 1) (.loop { rec0 with state := .busy })) := hKb _ _ _ _ (by omega) hk.1 rfl rfl
      have hb2 := hk.put { rec0 with state := .busy }
      refine bk_round f1 f2 f3 f4 f5 hk f0 hfn (hps x) (fun K hK => hassign _ x W K hK) (hbody _ pre x _ (hI.putObj _ hi hk.1 rfl) (hY.putObj _ hy hk.1 rfl) hlen) ?_ ?_ ?_ (fun e a' W' h => hBo _ _ _ _ _ h)
      · intro a' W' h
        obtain ⟨h3, h4, h5⟩ := hBn _ _ _ _ h
        have hb3 := hb2.others h3
        rw [f7]
        exact ⟨h3, .inl ⟨rfl, ⟨hI.putObj _ h5 hb3.1 rfl, hb3.put _⟩, hKt (hKt hbusy h4) (hKb _ _ _ _ (by omega) hb3.1 rfl rfl)⟩⟩
      · intro a' W' h
        obtain ⟨h3, h5⟩ := hBr _ _ _ _ h
        have hb3 := hb2.others h3
        exact ⟨h3, .inr ⟨rfl, .ret, (hIx _).putObj _ h5 hb3.1 rfl, hb3.put _⟩⟩
      · intro id a' W' h
        obtain ⟨h3, h5⟩ := hBe _ _ _ _ _ h
        have hb3 := hb2.others h3
        exact ⟨h3, .inr ⟨rfl, .exit id, (hIx _).putObj _ h5 hb3.1 rfl, hb3.put _⟩⟩)
    ⟨hI1, hB1⟩
  refine ⟨w.heap.size + 1, [{ target := .collected w.heap.size, args := #[] }], W1, { target := .fn (.func gf) lb, args := #[.func (.yield (w.heap.size + 1)) #[] #[]] }, W1, gf,
    #[.func (.yield (w.heap.size + 1)) #[] #[]] ++ lb, W1, ?_, ?_, ?_, ?_, fun _ => h1, ?_⟩
  · rw [hW1, hrec]; exact run_enterLoop_outer _ _ _ _ _
  · simp only [resolve, hg]
    simp [go_sem]
  · intro f' hf'
    simp [Target.leads] at hf'
    subst hf'
    exact hFg
  · simp [invoke, go_sem, eg]
  · refine call.mono ?_
    rintro e W2 ⟨⟨v, rfl⟩, ⟨xs, hS, hi, hk⟩ | ⟨pre, hSp, c, hc, hk⟩⟩
    · refine ⟨_, _, run_endLoop hk.1 (by rw [f0]; simp), ?_⟩
      rw [f6]
      exact hdone _ xs _ hS (hI.putObj _ hi hk.1 rfl) (hk.put _).2
    · refine ⟨_, _, run_endLoop hk.1 (by simp), ?_⟩
      exact hstop _ c pre _ hSp ((hIx c).putObj _ hc hk.1 rfl) (hk.put _).2
end Go.Proofs.Ytmikemijdglgaaa
/- log's slots: the iterator's contract: what it owes of each slot's bytes. -/
namespace Go.Proofs.Ytmikemijdglgaaa
open Go.RowKit
set_option linter.unusedVariables false
set_option linter.unusedSimpArgs false

open Go.Shelf
attribute [local go_sem] Oper.semAt_some
/-- What a round that goes on keeps: what lay below n₀, and the iterator's own box. -/
def KpE (n₀ Bs : Nat) (A B : World) : Prop := Below n₀ A B ∧ B.heap[Bs]? = A.heap[Bs]?
theorem KpE.t {n₀ Bs : Nat} {A B C : World} (h : KpE n₀ Bs A B) (k : KpE n₀ Bs B C) : KpE n₀ Bs A C := ⟨h.1.trans k.1, k.2.trans h.2⟩
theorem KpE.b {n₀ Bs : Nat} {w : World} (hn : n₀ ≤ w.heap.size) (hb : Bs < w.heap.size) (W : World) (l : Nat) (o o' : Obj) (hl : w.heap.size ≤ l) (h : W.heap[l]? = some o) (h1 : o.isCells = false) (h2 : o.isWalk = false) : KpE n₀ Bs W (W.putObj l o') :=
  ⟨belowK_b hn W l o o' hl h h1 h2, (grownBy_putObj' W l o').block Bs (by have := (Array.getElem?_eq_some_iff.1 h).1; omega) (fun e => by cases e; omega)⟩
theorem KpE.refl (n₀ Bs : Nat) (W : World) : KpE n₀ Bs W W := ⟨Below.refl _ _, rfl⟩
theorem KpE.below {n₀ Bs : Nat} {A B : World} (h : Below A.heap.size A B) (hn : n₀ ≤ A.heap.size) (hb : Bs < A.heap.size) : KpE n₀ Bs A B := ⟨h.mono hn, h.block Bs hb⟩
theorem yield_two {e : Ending} {P Q : Prop} (h : (e = .returned (.bool true) ∧ P) ∨ (e = .returned (.bool false) ∧ Q)) : ∃ b : Bool, e = .returned (.bool b) ∧ ((b = true ∧ P) ∨ (b = false ∧ Q)) := by
  rcases h with ⟨h1, h2⟩ | ⟨h1, h2⟩
  · exact ⟨true, h1, .inl ⟨rfl, h2⟩⟩
  · exact ⟨false, h1, .inr ⟨rfl, h2⟩⟩
/-- A slot as it is handed out: its number, the block of its bytes. -/
abbrev encS (size : Nat) (x : Nat × Nat) : Array Value := #[.agg #[.int .i64 (x.1 : Nat), .slice (some ⟨x.2, 0, none⟩) size size], .int .i64 0]
/-- What the iterator owes of it. -/
def SlY (S : DS) (first count n₀ : Nat) (x : Nat × Nat) (W : World) : Prop := BRow W x.2 S.size (S.now (first + x.1)) ∧ n₀ ≤ x.2 ∧ x.1 < count
theorem fst_snoc {pre : List (Nat × Nat)} {k g : Nat} (h : pre.map Prod.fst = List.range k) : (pre ++ [(k, g)]).map Prod.fst = List.range (k + 1) := by rw [List.map_append, h, List.range_succ]; rfl
theorem fst_len {pre : List (Nat × Nat)} {k : Nat} (h : pre.map Prod.fst = List.range k) : pre.length = k := by have := congrArg List.length h; simpa using this
set_option maxRecDepth 100000 in
set_option maxHeartbeats 4000000 in
theorem slots1_in [Spare] (n : Nat) (hn : 2 ≤ n) (l Bs base first count : Nat) (M : DM) (S : DS) (w0 : World) (hD : Dsk w0 base M S) (hup : S.down = false) (hfc : first + count ≤ S.N) (J Jx : List (Nat × Nat) → World → Prop) (W : World) (hJ : AbidesFrom W.heap.size J)
    (hY : ∀ pre x W1, J pre W1 → SlY S first count w0.heap.size x W1 → pre.length < count → YieldAt Fence.wide (n - 1) Try.prog l (encS S.size x) W1 fun e W' =>
      (e = .returned (.bool true) ∧ J (pre ++ [x]) W' ∧ KpE w0.heap.size Bs W1 W') ∨ (e = .returned (.bool false) ∧ Jx (pre ++ [x]) W'))
    (hB0 : Below w0.heap.size w0 W) (hBsl : Bs < W.heap.size) (hBs : W.heap[Bs]? = some (.cells #[.pointer (some ⟨M.p, 0, none⟩), .int .i64 (first : Nat), .int .i64 (count : Nat)] 80)) (h0 : J [] W) :
    CallsIn Fence.wide n Try.prog 57 #[.func (.yield l) #[] #[], .pointer (some ⟨Bs, 0, none⟩)] W fun e W' => (∃ v, e = .returned v) ∧
      ((∃ xs, xs.map Prod.fst = List.range count ∧ J xs W') ∨ (∃ pre, (pre.map Prod.fst = List.range pre.length ∧ pre.length ≤ count) ∧ Jx pre W')) := by
  refine callsIn_of_wp Try.func57 rfl trivial ?_ rfl
  simp only [Try.ntmps57, List.size_toArray, List.length_cons, List.length_nil, Nat.reduceAdd, Nat.reduceSub, Array.replicate_succ, Array.replicate_zero, List.push_toArray, List.append_toArray, List.nil_append, List.cons_append]
  have hN := hD.hN
  have HD := Lib.hid hD
  have HY := Lib.hid hY
  have HJ := Lib.hid hJ
  have H0 := Lib.hid h0
  have HB := Lib.hid hB0
  have cz : W.cell? ⟨Bs, 2, none⟩ = some (.int .i64 (count : Nat)) := by simpa using cell_of_row W Bs 2 _ _ _ hBs
  have HBs := Lib.hid hBs
  have hn1 : 1 ≤ n := by omega
  clear hD hY hJ h0 hB0 hBs
  gi_wp2
  gi_loopw [8] (fun i wr => ∃ (k : Nat) (pre : List (Nat × Nat)), k ≤ count ∧ i = .int .i64 (k : Nat) ∧ pre.map Prod.fst = List.range k ∧ J pre wr ∧ KpE w0.heap.size Bs W wr ∧ W.heap.size ≤ wr.heap.size)
    (fun i _ => count - (intOf i).toNat)
  case atStart => exact ⟨0, [], Nat.zero_le _, rfl, rfl, H0.out, KpE.refl _ _ _, Nat.le_refl _⟩
  case round =>
    obtain ⟨k, pre, hk, rfl, hpre, hJs, hkp, hsz⟩ := hrel
    obtain ⟨wo, hwo⟩ : ∃ wo, wo = wr := ⟨_, rfl⟩
    subst hwo
    have HJs := Lib.hid hJs
    have HK := Lib.hid hkp
    have HPre := Lib.hid hpre
    have hBs2 : wo.heap[Bs]? = _ := hkp.2.trans HBs.out
    have cp : wo.cell? ⟨Bs, 0, none⟩ = some (.pointer (some ⟨M.p, 0, none⟩)) := by simpa using cell_of_row wo Bs 0 _ _ _ hBs2
    have cf : wo.cell? ⟨Bs, 1, none⟩ = some (.int .i64 (first : Nat)) := by simpa using cell_of_row wo Bs 1 _ _ _ hBs2
    clear hJs hkp hpre hBs2
    by_cases hlt : k < count
    · have HDk := Lib.hid (HD.out.below (HB.out.trans HK.out.1))
      have hrd := readDisk_ok (first + k) wo base M S HDk.out (by omega) hup
      have hsum : IntKind.i64.wrap ((first : Int) + (k : Int)) = ((first + k : Nat) : Int) := by rw [IntWalk.i64_in _ (by omega)]; rfl
      rw [Int.natCast_add] at hrd
      have HRd := Lib.hid hrd
      clear hrd
      gi_wp2
      refine ⟨trivial, (callsIn_wide.2 HRd.out).mono ?_⟩
      rintro e W2 ⟨rfl, hrow, l2⟩
      obtain ⟨g, hg⟩ : ∃ g, g = wo.heap.size := ⟨_, rfl⟩
      have hJ2 := HJ.out _ _ _ none HJs.out (grown_below (r := none) l2) (by simp)
      have hgn : w0.heap.size ≤ wo.heap.size := (HB.out.trans HK.out.1).size
      obtain ⟨fn, tmps, assign, body, hy, hRr⟩ := HY.out pre (k, g) W2 hJ2 ⟨by rw [hg]; exact hrow, by rw [hg]; exact hgn, hlt⟩ (by rw [fst_len HPre.out]; exact hlt)
      have HR := Lib.hid hRr
      have HKa := Lib.hid (HK.out.t (KpE.below l2 hgn (by have := (Array.getElem?_eq_some_iff.1 (HK.out.2.trans HBs.out)).1; exact this)))
      have hs2 := l2.size
      rw [← hg]
      have HPre2 := Lib.hid (fst_snoc (g := g) HPre.out)
      clear hrow l2 hJ2 hRr hg
      gi_wp2
      refine HR.out.mono ?_
      rintro e W3 (⟨rfl, hJ3, hk3⟩ | ⟨rfl, hJx3⟩)
      · have HJ3 := Lib.hid (And.intro hJ3 hk3)
        have hs3 := hk3.1.size
        clear hJ3 hk3 hy
        gi_wp2
        exact ⟨⟨k + 1, pre ++ [(k, g)], by omega, by go_num, HPre2.out, HJ3.out.1, HKa.out.t HJ3.out.2, by omega⟩, by simp [intOf]; omega⟩
      · have HJX := Lib.hid hJx3
        clear hJx3 hy
        gi_wp2
        refine bodyPost_ret (results_none rfl _ _ _) rfl ?_
        exact ⟨⟨_, rfl⟩, .inr ⟨_, ⟨by rw [fst_len HPre2.out]; exact HPre2.out, by rw [fst_len HPre2.out]; omega⟩, HJX.out⟩⟩
    · obtain rfl : k = count := by omega
      gi_wp2
      go_end0
      exact ⟨⟨_, rfl⟩, .inl ⟨_, HPre.out, HJs.out⟩⟩
/-- The iterator over a log's slots, of a disk that is up. -/
theorem slots_seq [Spare] (n : Nat) (hn : 2 ≤ n) (Bs base first count : Nat) (M : DM) (S : DS) (w0 : World) (hD : Dsk w0 base M S) (hup : S.down = false) (hfc : first + count ≤ S.N) (w : World) (hB0 : Below w0.heap.size w0 w)
    (hBs : w.heap[Bs]? = some (.cells #[.pointer (some ⟨M.p, 0, none⟩), .int .i64 (first : Nat), .int .i64 (count : Nat)] 80)) :
    SeqMem Fence.wide n Try.prog 57 #[.pointer (some ⟨Bs, 0, none⟩)] (encS S.size) (SlY S first count w0.heap.size) (KpE w0.heap.size Bs) (fun xs => xs.map Prod.fst = List.range count) (fun pre => pre.map Prod.fst = List.range pre.length ∧ pre.length ≤ count) count w := fun l J Jx W hW hJ _ hY h0 =>
  slots1_in n hn l Bs base first count M S w0 hD hup hfc J Jx W hJ hY (hB0.trans (hW.mono hB0.size)) (Nat.lt_of_lt_of_le (Array.getElem?_eq_some_iff.1 hBs).1 hW.size) ((hW.block Bs (Array.getElem?_eq_some_iff.1 hBs).1).trans hBs) h0
end Go.Proofs.Ytmikemijdglgaaa
/- As MSeqMem, where the loop's variables are laid in new blocks at each round (the body takes their address). No word of any package. -/
namespace Go.Proofs.Ytmikemijdglgaaa
open Go Go.RowKit
set_option linter.unusedVariables false
variable {P : Program} {F : Fence} {D m : Nat} {r r' : Loop} {W W' : World}
/-- One round of a loop that is ready; its variables may lie in new blocks. -/
theorem bk_roundA {ps : Array Tmp} {tmps : Array Value} {assign body : Code} {fn : FuncId} (e1 : r.params = ps) (e2 : r.tmps = tmps) (e3 : r.assign = assign) (e4 : r.body = body) (e5 : r.fn = fn) (hb : Bk D r W) (hs : r.state = .ready) (hfn : F.fn fn) {args : Array Value} (hsz : args.size = ps.size) {Aa : Act → World → Prop} {Q : World → Exit → Act → World → Prop} {R : Ending → World → Prop}
    (hk : ∀ a' W1, Aa a' W1 → KeepsOthers W W1)
    (hassign : ∀ K : Act → World → Prop, (∀ a' W1, Aa a' W1 → K a' W1) → assign.wpIn (F.inRound (D + 1)) m P (Exit.then K (fun _ _ _ => False)) { tmps := (ps.zip args).foldl (fun t (p, v) => t.setIfInBounds p v) tmps, defers := [] } W)
    (hbody : ∀ a' W1, Aa a' W1 → body.wpIn (F.inRound (D + 1)) m P (Q W1) a' (W1.putObj (D + 1) (.loop { r with state := .busy })))
    (hnorm : ∀ a₁ W1 a' W', Aa a₁ W1 → Q W1 .normal a' W' → KeepsOthers (W1.putObj (D + 1) (.loop { r with state := .busy })) W' ∧ R (.returned (.bool true)) (W'.putObj (D + 1) (.loop { r with state := .ready, pending := none })))
    (hret : ∀ a₁ W1 a' W', Aa a₁ W1 → Q W1 .ret a' W' → KeepsOthers (W1.putObj (D + 1) (.loop { r with state := .busy })) W' ∧ R (.returned (.bool false)) (W'.putObj (D + 1) (.loop { r with state := .done, pending := some .ret })))
    (hexit : ∀ id a₁ W1 a' W', Aa a₁ W1 → Q W1 (.exit id) a' W' → KeepsOthers (W1.putObj (D + 1) (.loop { r with state := .busy })) W' ∧ R (.returned (.bool false)) (W'.putObj (D + 1) (.loop { r with state := .done, pending := some (.exit id) })))
    (hno : ∀ W1 e a' W', Q W1 e a' W' → e = .normal ∨ e = .ret ∨ ∃ id, e = .exit id) : YieldAt F m P (D + 1) args W R := by
  subst e1 e2 e3 e4 e5
  refine ⟨r.fn, _, r.assign, r.body, run_yield hb.1 hsz, roundIn_of_wpIn hfn (hassign _ fun a₁ W1 hA => ?_)⟩
  have hb1 := hb.others (hk a₁ W1 hA)
  refine ⟨_, run_beginRound hb1.1 hs, wpIn_mono (hbody a₁ W1 hA) ?_⟩
  have hb2 := hb1.put { r with state := .busy }
  intro e a' W' hq
  rcases hno W1 e a' W' hq with rfl | rfl | ⟨id, rfl⟩
  · obtain ⟨hk, hR⟩ := hnorm a₁ W1 a' W' hA hq
    exact ⟨_, _, run_endRound none (hb2.others hk).1, hR⟩
  · obtain ⟨hk, hR⟩ := hret a₁ W1 a' W' hA hq
    exact ⟨_, _, run_endRound (some .ret) (hb2.others hk).1, hR⟩
  · obtain ⟨hk, hR⟩ := hexit id a₁ W1 a' W' hA hq
    exact ⟨_, _, run_endRound (some (.exit id)) (hb2.others hk).1, hR⟩
set_option maxHeartbeats 300000 in
/-- The loop over an iterator that owes Y. How a round may be left: it goes on, returns, or leaves a block. -/
theorem SeqMem.loopA {α : Type} {n : Nat} {g : Operand} {ps : Array Tmp} {assign body : Code} {Q : Exit → Act → World → Prop} {a : Act} {w : World}
    (hro : F.round = none) (h1 : 1 ≤ n) {gf : Nat} {lb : Array Value} (hg : a.eval g = .func (.func gf) #[] lb) (hFg : F.fn gf) (eg : ∀ args w, (callFunc gf args).run P w = .ok (.enter gf args) w)
    {encs : α → Array Value} {Y : α → World → Prop} {Kp : World → World → Prop} {S Sp : List α → Prop} {N : Nat} {w0 : World} (hseq : SeqMem F (n - 1) P gf lb encs Y Kp S Sp N w0)
    (hKt : ∀ {A B C : World}, Kp A B → Kp B C → Kp A C) (hKb : ∀ (W : World) (l : Nat) (o o' : Obj), w.heap.size ≤ l → W.heap[l]? = some o → o.isCells = false → o.isWalk = false → Kp W (W.putObj l o'))
    (hb0 : Below w0.heap.size w0 w) (hps : ∀ x, (encs x).size = ps.size)
    (I : List α → World → Prop) (Ix : Code → List α → World → Prop) (hI : OwnFrom w.heap.size I) (hIx : ∀ c, OwnFrom w.heap.size (Ix c)) (h0 : I [] w)
    (A : List α → α → Act → World → Prop) (hAp : ∀ pre x a' W1 l o o', w.heap.size ≤ l → A pre x a' W1 → W1.heap[l]? = some o → o.isCells = false → A pre x a' (W1.putObj l o'))
    (hassign : ∀ (l : Nat) (pre : List α) (x : α) (W : World) (K : Act → World → Prop), I pre W → Y x W → pre.length < N → (∀ a' W1, A pre x a' W1 → KeepsOthers W W1 → Kp W W1 → K a' W1) →
      assign.wpIn (F.inRound l) (n - 1 - 1) P (Exit.then K (fun _ _ _ => False)) { tmps := (ps.zip (encs x)).foldl (fun t (p, v) => t.setIfInBounds p v) a.tmps, defers := [] } W)
    (BP : List α → World → Exit → Act → World → Prop)
    (hbody : ∀ (l : Nat) (pre : List α) (x : α) (a' : Act) (W : World), A pre x a' W → pre.length < N → body.wpIn (F.inRound l) (n - 1 - 1) P (BP (pre ++ [x]) W) a' W)
    (hBn : ∀ xs W a' W', BP xs W .normal a' W' → KeepsOthers W W' ∧ Kp W W' ∧ I xs W')
    (hBr : ∀ xs W a' W', BP xs W .ret a' W' → KeepsOthers W W' ∧ Ix .ret xs W')
    (hBe : ∀ xs W id a' W', BP xs W (.exit id) a' W' → KeepsOthers W W' ∧ Ix (.exit id) xs W')
    (hBo : ∀ xs W e a' W', BP xs W e a' W' → e = .normal ∨ e = .ret ∨ ∃ id, e = .exit id)
    (hdone : ∀ (D : Nat) (xs : List α) (W : World), w.heap.size ≤ D → S xs → I xs W → W.heap[D]? = some (.deferred (some [])) → Q .normal { a with defers := { target := .collected D, args := #[] } :: a.defers } W)
    (hstop : ∀ (D : Nat) (c : Code) (pre : List α) (W : World), w.heap.size ≤ D → Sp pre → Ix c pre W → W.heap[D]? = some (.deferred (some [])) → c.wpIn F n P Q { a with defers := { target := .collected D, args := #[] } :: a.defers } W) :
    (Code.rangeFunc g ps assign body).wpIn F n P Q a w := by
  refine wpIn_rangeFunc fun fn hfn => ?_
  rw [hro]
  obtain ⟨rec0, hrec⟩ : ∃ r : Loop, r = { state := .ready, pending := none, fn := fn, tmps := a.tmps, params := ps, assign := assign, body := body, defers := w.heap.size } := ⟨_, rfl⟩
  have f0 : rec0.state = .ready := by rw [hrec]
  have f6 : rec0.pending = none := by rw [hrec]
  have f1 : rec0.params = ps := by rw [hrec]
  have f2 : rec0.tmps = a.tmps := by rw [hrec]
  have f3 : rec0.assign = assign := by rw [hrec]
  have f4 : rec0.body = body := by rw [hrec]
  have f5 : rec0.fn = fn := by rw [hrec]
  have f7 : { rec0 with state := .ready, pending := none } = rec0 := by rw [hrec]
  obtain ⟨W1, hW1⟩ : ∃ W1, W1 = (w.alloc (.deferred (some []))).alloc (.loop rec0) := ⟨_, rfl⟩
  have hB1 : Bk w.heap.size rec0 W1 := by rw [hW1]; exact Bk.made w rec0
  have hI1 : I [] W1 := by rw [hW1]; exact hI.alloc _ (hI.alloc _ h0)
  have hs1 : w.heap.size ≤ W1.heap.size := by rw [hW1]; simp; omega
  have hb1 : Below w0.heap.size w0 W1 := by
    rw [hW1]
    exact hb0.trans ((((Below.refl _ w).alloc (Nat.le_refl _) _).alloc (by simp) _).mono hb0.size)
  have cells : ∀ {A : World} {row : Option Nat}, (∀ q, row = some q → W1.heap.size ≤ q ∧ ∃ o : Obj, A.heap[q]? = some o ∧ o.isWalk = true) → ∀ q, row = some q → w.heap.size ≤ q ∧ ∃ o : Obj, A.heap[q]? = some o ∧ o.isCells = false :=
    fun h q e => by obtain ⟨h1, o, ho, hw⟩ := h q e; exact ⟨by omega, o, ho, Obj.not_cells_of_walk hw⟩
  have call := hseq (w.heap.size + 1) (fun pre W => I pre W ∧ Bk w.heap.size rec0 W) (fun pre W => ∃ c, Ix c pre W ∧ Bk w.heap.size { rec0 with state := .done, pending := some c } W) W1 hb1
    (fun s A B row hs hgr hr => ⟨hI s A B row hs.1 hgr (cells hr), hs.2.grown hgr fun q e => (hr q e).2⟩)
    (fun s A B row hs hgr hr => by
      obtain ⟨c, hc, hk⟩ := hs
      exact ⟨c, hIx c s A B row hc hgr (cells hr), hk.grown hgr fun q e => (hr q e).2⟩)
    (fun pre x W ⟨hi, hk⟩ hy hlen => by
      refine bk_roundA (Aa := fun a' W1 => A pre x a' W1 ∧ KeepsOthers W W1 ∧ Kp W W1) (Q := fun W1 => BP (pre ++ [x]) (W1.putObj (w.heap.size + 1) (.loop { rec0 with state := .busy }))) f1 f2 f3 f4 f5 hk f0 hfn (hps x) (fun a' W1 h => h.2.1)
        (fun K hK => hassign _ pre x W K hi hy hlen fun a' W1 q1 q2 q3 => hK a' W1 ⟨q1, q2, q3⟩) (fun a' W1 ⟨q1, q2, q3⟩ => hbody _ pre x a' _ (hAp _ _ _ _ _ _ _ (Nat.le_succ _) q1 (hk.others q2).1 rfl) hlen) ?_ ?_ ?_ (fun W1 e a' W' h => hBo _ _ _ _ _ h)
      · rintro a₁ W2 a' W' ⟨q1, q2, q3⟩ h
        obtain ⟨h3, h4, h5⟩ := hBn _ _ _ _ h
        have hk2 := hk.others q2
        have hb2 := hk2.put { rec0 with state := .busy }
        have hb3 := hb2.others h3
        rw [f7]
        have hbusy : Kp W2 (W2.putObj (w.heap.size + 1) (.loop { rec0 with state := .busy })) := hKb _ _ _ _ (by omega) hk2.1 rfl rfl
        exact ⟨h3, .inl ⟨rfl, ⟨hI.putObj _ h5 (Nat.le_succ _) hb3.1 rfl, hb3.put _⟩, hKt (hKt (hKt q3 hbusy) h4) (hKb _ _ _ _ (by omega) hb3.1 rfl rfl)⟩⟩
      · rintro a₁ W2 a' W' ⟨q1, q2, q3⟩ h
        obtain ⟨h3, h5⟩ := hBr _ _ _ _ h
        have hb3 := ((hk.others q2).put { rec0 with state := .busy }).others h3
        exact ⟨h3, .inr ⟨rfl, .ret, (hIx _).putObj _ h5 (Nat.le_succ _) hb3.1 rfl, hb3.put _⟩⟩
      · rintro id a₁ W2 a' W' ⟨q1, q2, q3⟩ h
        obtain ⟨h3, h5⟩ := hBe _ _ _ _ _ h
        have hb3 := ((hk.others q2).put { rec0 with state := .busy }).others h3
        exact ⟨h3, .inr ⟨rfl, .exit id, (hIx _).putObj _ h5 (Nat.le_succ _) hb3.1 rfl, hb3.put _⟩⟩)
    ⟨hI1, hB1⟩
  refine ⟨w.heap.size + 1, [{ target := .collected w.heap.size, args := #[] }], W1, { target := .fn (.func gf) lb, args := #[.func (.yield (w.heap.size + 1)) #[] #[]] }, W1, gf,
    #[.func (.yield (w.heap.size + 1)) #[] #[]] ++ lb, W1, ?_, ?_, ?_, ?_, fun _ => h1, ?_⟩
  · rw [hW1, hrec]; exact run_enterLoop_outer _ _ _ _ _
  · simp only [resolve, hg]
    simp [go_sem]
  · intro f' hf'
    simp [Target.leads] at hf'
    subst hf'
    exact hFg
  · simp [invoke, go_sem, eg]
  · refine call.mono ?_
    rintro e W2 ⟨⟨v, rfl⟩, ⟨xs, hS, hi, hk⟩ | ⟨pre, hSp, c, hc, hk⟩⟩
    · refine ⟨_, _, run_endLoop hk.1 (by rw [f0]; simp), ?_⟩
      rw [f6]
      exact hdone _ xs _ (Nat.le_refl _) hS (hI.putObj _ hi (Nat.le_succ _) hk.1 rfl) (hk.put _).2
    · refine ⟨_, _, run_endLoop hk.1 (by simp), ?_⟩
      exact hstop _ c pre _ (Nat.le_refl _) hSp ((hIx c).putObj _ hc (Nat.le_succ _) hk.1 rfl) (hk.put _).2
end Go.Proofs.Ytmikemijdglgaaa
