/- Merged texts: MMem, MCopy, MAppend, MStr, FPlain, FCheck, FMem, FPut, FParts, FCopy. -/
import Derived.Test.YtmikemijdglgaaaProg
import Derived.WalkKit
import Derived.WalkSpells
import Derived.WalkLawsBesides
import Derived.Lib.Hide
import Derived.Deep.OwnRows
import Derived.Deep.Draws
import Derived.OwnWalk
import Derived.Maps.AppendAt
import Derived.Laws.CopyOwn
import Derived.Laws.AppendOwnNone
import Derived.Laws.BytesArg
import Derived.OpenShut
import Derived.Laws.BitsAllLaws
import Derived.BigQuiet
import Derived.Deep.QuietTactic
/- Words on memory: a block of bytes that the call made; what only one block's change leaves. -/
namespace Go.Proofs.Ytmikemijdglgaaa
open Go.RowKit

/-- A slice of bytes that can be read: byte i is F i. -/
def Bytes (w : World) (A : Option Addr) (n : Nat) (F : Nat → Nat) : Prop :=
  n ≤ 9223372036854775807 ∧ (∀ i, i < n → F i < 256) ∧ (0 < n → ∃ b o, A = some ⟨b, o, none⟩ ∧ ∀ i, i < n → w.cell? ⟨b, o + i, none⟩ = some (.int .u8 (F i)))


/-- Block g is n bytes, byte i is F i. -/
def BRow (w : World) (g n : Nat) (F : Nat → Nat) : Prop := w.rowIs g 5 n (fun i => .int .u8 (F i)) ∧ (∀ i, i < n → F i < 256) ∧ n ≤ 9223372036854775807

section
variable {w w' a : World} {g n : Nat} {F G : Nat → Nat}
theorem BRow.cell (h : BRow w g n F) {i : Nat} (hi : i < n) : w.cell? ⟨g, i, none⟩ = some (.int .u8 (F i)) := h.1.cell hi
theorem BRow.frozen (h : BRow w g n F) (i : Nat) : w.frozen? ⟨g, i, none⟩ = false := h.1.frozen i
theorem BRow.lt (h : BRow w g n F) : g < w.heap.size := h.1.lt
theorem BRow.congr (h : BRow w g n F) (e : ∀ i, i < n → F i = G i) : BRow w g n G :=
  ⟨h.1.congr fun i hi => by rw [e i hi], fun i hi => by rw [← e i hi]; exact h.2.1 i hi, h.2.2⟩
theorem BRow.of_block (h : BRow w g n F) (e : w'.heap[g]? = w.heap[g]?) : BRow w' g n F := ⟨h.1.of_block e, h.2⟩
theorem BRow.set_ (h : BRow w g n F) (i v : Nat) (hv : v < 256) : BRow (w.setCell ⟨g, i, none⟩ (.int .u8 v)) g n (fun j => if j = i then v else F j) := by
  refine ⟨(h.1.set i (.int .u8 v)).congr fun j _ => ?_, fun j hj => ?_, h.2.2⟩
  · by_cases e : j = i <;> simp [e]
  · show (if j = i then v else F j) < 256
    split
    · exact hv
    · exact h.2.1 j hj
theorem BRow.bytes (h : BRow w g n F) {o m : Nat} (hm : o + m ≤ n) : Bytes w (some ⟨g, o, none⟩) m (fun i => F (o + i)) :=
  ⟨by have := h.2.2; omega, fun i hi => h.2.1 _ (by omega), fun _ => ⟨g, o, rfl, fun i hi => h.cell (by omega)⟩⟩
theorem BRow.alloc (h : BRow w g n F) (o : Obj) : BRow (w.alloc o) g n F := ⟨h.1.alloc o, h.2⟩
theorem BRow.drewN (h : BRow w g n F) (k : Nat) : BRow (w.drewN k) g n F := h
theorem BRow.below {B : Nat} (h : BRow w g n F) (hb : Below B w w') (hg : g < B) : BRow w' g n F := h.of_block (hb.block g hg)
theorem BRow.other (h : BRow w g n F) {r : Option Nat} (hb : w.grownBy w' r) (hr : some g ≠ r) : BRow w' g n F := h.of_block (hb.block g h.lt hr)

/-- A store turns its own block alone; a draw none. -/
theorem grown_store (w : World) (p : Addr) (u : Value) : w.grownBy (w.setCell p u) (some p.block) where
  os := rfl
  tape := rfl
  output := rfl
  size := by simp [World.setCell]
  block k _ hk := Below.heap_setCell w p u k fun e => hk (e ▸ rfl)
theorem grown_draws (w : World) (k : Nat) (r : Option Nat) : w.grownBy (w.drewN k) r where
  os := rfl
  tape := rfl
  output := rfl
  size := Nat.le_refl _
  block _ _ _ := rfl
theorem grown_below {r : Option Nat} (h : Below w.heap.size w w') : w.grownBy w' r where
  os := h.os
  tape := h.tape
  output := h.output
  size := h.size
  block k hk _ := h.block k hk
theorem Bytes.keep {A : Option Addr} (h : Bytes w A n F) (k : ∀ b o, A = some ⟨b, o, none⟩ → 0 < n → w'.heap[b]? = w.heap[b]?) : Bytes w' A n F :=
  ⟨h.1, h.2.1, fun hn => by
    obtain ⟨b, o, rfl, hc⟩ := h.2.2 hn
    exact ⟨b, o, rfl, fun i hi => (World.cell?_of_block (w := w) (a := ⟨b, o + i, none⟩) (k b o rfl hn)).trans (hc i hi)⟩⟩
theorem Bytes.blk {A : Option Addr} (h : Bytes w A n F) : ∀ b o, A = some ⟨b, o, none⟩ → 0 < n → b < w.heap.size := by
  rintro b o rfl hn
  obtain ⟨b', o', e, hc⟩ := h.2.2 hn
  injection e with e
  injection e with e1 e2
  subst e1
  have := hc 0 hn
  rcases Nat.lt_or_ge b w.heap.size with hlt | hge
  · exact hlt
  · rw [World.cell?, Array.getElem?_eq_none hge] at this
    cases this
theorem Bytes.below {A : Option Addr} {B : Nat} (h : Bytes w A n F) (hb : Below B w w') (hB : w.heap.size ≤ B) : Bytes w' A n F :=
  h.keep fun b o e hn => hb.block b (by have := h.blk b o e hn; omega)
theorem Bytes.congr {A : Option Addr} (h : Bytes w A n F) (e : ∀ i, i < n → F i = G i) : Bytes w A n G :=
  ⟨h.1, fun i hi => by rw [← e i hi]; exact h.2.1 i hi, fun hn => by
    obtain ⟨b, o, rfl, hc⟩ := h.2.2 hn
    exact ⟨b, o, rfl, fun i hi => by rw [← e i hi]; exact hc i hi⟩⟩
end
theorem Bytes.cut {w : World} {b o n : Nat} {F : Nat → Nat} (h : Bytes w (some ⟨b, o, none⟩) n F) (k m : Nat) (hk : k + m ≤ n) : Bytes w (some ⟨b, o + k, none⟩) m (fun i => F (k + i)) := by
  refine ⟨by have := h.1; omega, fun i hi => h.2.1 _ (by omega), fun hm => ?_⟩
  obtain ⟨b', o', e, hc⟩ := h.2.2 (by omega)
  injection e with e
  injection e with e1 e2
  subst e1 e2
  exact ⟨b, o + k, rfl, fun i hi => by rw [Nat.add_assoc]; exact hc _ (by omega)⟩
theorem Bytes.head {w : World} {A : Option Addr} {n : Nat} {F : Nat → Nat} (h : Bytes w A n F) (m : Nat) (hk : m ≤ n) : Bytes w A m F :=
  ⟨by have := h.1; omega, fun i hi => h.2.1 _ (by omega), fun hm => by
    obtain ⟨b', o', e, hc⟩ := h.2.2 (by omega)
    exact ⟨b', o', e, fun i hi => hc _ (by omega)⟩⟩

theorem none_bytes (w : World) (F : Nat → Nat) : Bytes w none 0 F := ⟨by omega, fun i hi => absurd hi (by omega), fun h => absurd h (by omega)⟩

def zeroF (_ : Nat) : Nat := 0
theorem BRow.made (w : World) (n : Nat) (hn : n ≤ 9223372036854775807) : BRow (w.alloc (.cells (madeCells #[.int .u8 0] n) 5)) w.heap.size n zeroF :=
  ⟨(World.rowIs_made w (.int .u8 0) n 5).congr fun i _ => rfl, fun _ _ => by unfold zeroF; omega, hn⟩

end Go.Proofs.Ytmikemijdglgaaa
/- The law of copy into a block of bytes that the call made, its source whatever bytes can be read. -/
namespace Go.Proofs.Ytmikemijdglgaaa
open Go.RowKit

def copyF (F0 : Nat → Nat) (off m : Nat) (F : Nat → Nat) (i : Nat) : Nat := if off ≤ i ∧ i < off + m then F (i - off) else F0 i

def cellsOfF (F : Nat → Nat) (m : Nat) : List Value := (List.range m).map fun i => .int .u8 (F i)
theorem cellsOfF_get {F : Nat → Nat} {m j : Nat} {v : Value} (h : (cellsOfF F m)[j]? = some v) : j < m ∧ v = .int .u8 (F j) := by
  obtain ⟨hj, e⟩ := List.getElem?_eq_some_iff.1 h
  simp [cellsOfF] at hj e
  exact ⟨hj, e.symm⟩
theorem copyF_in {F0 F : Nat → Nat} {o m i : Nat} (h1 : o ≤ i) (h2 : i < o + m) : copyF F0 o m F i = F (i - o) := if_pos ⟨h1, h2⟩
theorem copyF_out {F0 F : Nat → Nat} {o m i : Nat} (h : i < o ∨ o + m ≤ i) : copyF F0 o m F i = F0 i := if_neg (by omega)

theorem setRow_brow {w : World} {g n o m : Nat} {F0 F : Nat → Nat} (h : BRow w g n F0) (hm : o + m ≤ n) (hF : ∀ i, i < m → F i < 256) (cur : Array Value) (hcur : w.heap[g]? = some (.cells cur 5 (0, 0))) :
    BRow (w.setRow g (cur.toList.take o ++ (cellsOfF F m ++ cur.toList.drop (o + (cellsOfF F m).length))).toArray) g n (copyF F0 o m F) := by
  obtain ⟨⟨c, hb, hn, hc⟩, hF0, hN⟩ := h
  rw [hcur] at hb
  injection hb with hb
  injection hb with hb _ _
  subst hb
  have hl : (cellsOfF F m).length = m := by simp [cellsOfF]
  have hcl : cur.toList.length = n := by simpa using hn
  refine ⟨⟨_, setRow_heap w g _ _ _ _ hcur, by simp [hl, hn]; omega, fun i hi => ?_⟩, fun i hi => ?_, hN⟩
  · show (cur.toList.take o ++ (cellsOfF F m ++ cur.toList.drop (o + (cellsOfF F m).length))).toArray[i]? = some (Value.int .u8 (copyF F0 o m F i))
    rw [List.getElem?_toArray, hl]
    by_cases h1 : i < o
    · rw [List.getElem?_append_left (by rw [List.length_take]; omega), List.getElem?_take_of_lt h1]
      rw [copyF_out (by omega)]
      have := hc i hi
      simpa using this
    · rw [List.getElem?_append_right (by rw [List.length_take]; omega)]
      have e : i - (cur.toList.take o).length = i - o := by simp; omega
      rw [e]
      by_cases h2 : i < o + m
      · rw [List.getElem?_append_left (by omega)]
        rw [copyF_in (by omega) h2]
        unfold cellsOfF
        rw [List.getElem?_map, List.getElem?_range (by omega)]
        rfl
      · rw [List.getElem?_append_right (by omega), hl, List.getElem?_drop]
        rw [copyF_out (by omega)]
        have := hc i hi
        have e2 : o + m + (i - o - m) = i := by omega
        rw [e2]
        simpa using this
  · unfold copyF
    split
    · exact hF _ (by omega)
    · exact hF0 i hi

theorem wpList_copy_bytes {P : Program} {w : World} {ops : Array Oper} {rest : List Oper} {o : Oper} {a : Act} {Q : Exit → Act → World → Prop} (hgd : o.guard = none) (d s : Operand) (dT sT : TypeId)
    (ho : o.op = .call { callee := .builtin .copy, args := #[d, s], argTypes := #[dT, sT] }) (hu : P.underlying dT = some (.slice 5)) (hsz : (P.info? 5).map (·.size) = some 1)
    (dp sp : Option Addr) (dLen dCap sLen sCap : Nat) (hd : a.eval d = .slice dp dLen dCap) (hs : a.eval s = .slice sp sLen sCap)
    (g off n m : Nat) (F0 F : Nat → Nat) (hg : BRow w g n F0) (hsrc : Bytes w sp sLen F) (hm : m = Nat.min sLen dLen) (hdp : 0 < m → dp = some ⟨g, off, none⟩) (hfit : off + m ≤ n)
    (h : ∀ w', BRow w' g n (copyF F0 off m F) → w.grownBy w' (some g) → wpList P ops Q rest (a.put o.dst (goInt m)) w') : wpList P ops Q (o :: rest) a w := by
  have hmle : m ≤ sLen := by rw [hm]; exact Nat.min_le_left _ _
  rcases Nat.eq_zero_or_pos m with h0 | h0
  · subst h0
    refine wpList_copy_nothing hgd d s dT sT ho _ hu hsz dp sp dLen dCap sLen sCap hd hs hm.symm ?_
    exact h w (hg.congr fun i _ => by unfold copyF; rw [if_neg (by omega)]) (World.grownBy.refl w _)
  · have hdp' := hdp h0
    subst hdp'
    obtain ⟨b, ob, rfl, hc⟩ := hsrc.2.2 (by omega)
    obtain ⟨cur, hcur, hsize, hcell⟩ := hg.1
    have hl : (cellsOfF F m).length = m := by simp [cellsOfF]
    have hbrow := setRow_brow hg hfit (fun i hi => hsrc.2.1 i (by omega)) cur hcur
    refine wpList_copy_own hgd d s dT sT ho _ hu hsz g off dLen dCap ⟨b, ob, none⟩ sLen sCap hd hs cur _ hcur (cellsOfF F m) (by rw [hl, hm]) ?_ (by rw [hl, hsize]; exact hfit) ?_ ?_
    · intro j v hv
      obtain ⟨hj, rfl⟩ := cellsOfF_get hv
      have := hc j (by omega)
      unfold Addr.add
      split
      · rename_i h0; subst h0; simpa using this
      · simpa using this
    · intro v hv
      obtain ⟨k, _, rfl⟩ := List.mem_map.1 hv
      rfl
    · rw [hl]
      exact h _ (by rw [hl] at hbrow; exact hbrow) ⟨rfl, rfl, rfl, by simp [World.setRow], fun k _ hk => setRow_other w g k _ (fun e => hk (by rw [e]))⟩
end Go.Proofs.Ytmikemijdglgaaa
/- Bytes that the call gathers by append: what it owns, and the law. -/
namespace Go.Proofs.Ytmikemijdglgaaa
open Go.RowKit

theorem u8infoAll : (Try.prog.info? 5).map (fun i => (i.zero, i.size, i.bytes)) = some (some (.int .u8 0), 1, 1) := by kernel_rfl

/-- The slice A, n, c is the call's own (of blocks from base on), its bytes are F. -/
def OwnB (w : World) (base : Nat) (A : Option Addr) (n c : Nat) (F : Nat → Nat) : Prop :=
  w.ownsRow base 5 1 (.slice A n c) n (cellsOfF F n) ∧ (∀ i, i < n → F i < 256) ∧ n ≤ c ∧ c ≤ 9223372036854775807 ∧ (A = none → c = 0)
def catF (F : Nat → Nat) (n : Nat) (G : Nat → Nat) (i : Nat) : Nat := if i < n then F i else G (i - n)
/-- The block that a slice lies in. -/
def blkOf (A : Option Addr) : Option Nat := A.map fun a => a.block

theorem cells_cat (F G : Nat → Nat) (n m : Nat) : cellsOfF F n ++ cellsOfF G m = cellsOfF (catF F n G) (n + m) := by
  unfold cellsOfF
  rw [List.range_add, List.map_append, List.map_map]
  congr 1
  · apply List.map_congr_left
    intro i hi
    have := List.mem_range.1 hi
    unfold catF
    rw [if_pos this]
  · apply List.map_congr_left
    intro i _
    show Value.int .u8 (G i) = Value.int .u8 (catF F n G (n + i))
    unfold catF
    rw [if_neg (by omega), Nat.add_sub_cancel_left]
theorem cells_congr {F G : Nat → Nat} {n : Nat} (h : ∀ i, i < n → F i = G i) : cellsOfF F n = cellsOfF G n := by
  unfold cellsOfF
  apply List.map_congr_left
  intro i hi
  rw [h i (List.mem_range.1 hi)]

section
variable {w w' : World} {base n c : Nat} {A : Option Addr} {F G : Nat → Nat}
theorem OwnB.none_ (w : World) (base : Nat) (F : Nat → Nat) : OwnB w base none 0 0 F := ⟨World.ownsRow_nil w base _ 1, fun i hi => absurd hi (by omega), by omega, by omega, fun _ => rfl⟩
theorem OwnB.congr (h : OwnB w base A n c F) (e : ∀ i, i < n → F i = G i) : OwnB w base A n c G := by
  obtain ⟨h1, h2, h3⟩ := h
  rw [cells_congr e] at h1
  exact ⟨h1, fun i hi => by rw [← e i hi]; exact h2 i hi, h3⟩
theorem OwnB.at_ (h : OwnB w base A n c F) (hn : 0 < n) : ∃ g, A = some ⟨g, 0, none⟩ ∧ base ≤ g ∧ ∀ i, i < n → w.cell? ⟨g, i, none⟩ = some (.int .u8 (F i)) := by
  obtain ⟨⟨hl, ⟨hv, h0⟩ | ⟨g, cap, cur, hv, hg, hh, r⟩⟩, _⟩ := h
  · omega
  · injection hv with hv1 hv2 hv3
    subst hv1 hv3
    refine ⟨g, rfl, hg, fun i hi => ?_⟩
    have hc := World.ownsRow.cellAt (w := w) (base := base) (e := 5) (size := 1) ⟨hl, .inr ⟨g, c, cur, rfl, hg, hh, r⟩⟩ i (by omega)
    rw [hc]
    unfold cellsOfF
    rw [List.getElem?_map, List.getElem?_range hi]
    rfl
theorem OwnB.bytes (h : OwnB w base A n c F) : Bytes w A n F := by
  refine ⟨by have := h.2.2; omega, h.2.1, fun hn => ?_⟩
  obtain ⟨g, rfl, _, hc⟩ := h.at_ hn
  exact ⟨g, 0, rfl, fun i hi => by rw [Nat.zero_add]; exact hc i hi⟩
theorem OwnB.kept {row : Option Nat} (h : OwnB w base A n c F) (hg : w.grownBy w' row) (hne : A = none ∨ blkOf A ≠ row) : OwnB w' base A n c F := by
  refine ⟨h.1.kept hg ?_, h.2⟩
  rcases A with _ | a
  · exact .inl rfl
  · rcases hne with h0 | h0
    · cases h0
    · exact .inr h0
theorem OwnB.below (h : OwnB w base A n c F) (hb : Below w.heap.size w w') : OwnB w' base A n c F :=
  h.kept (grown_below (r := none) hb) (by
    rcases A with _ | a
    · exact .inl rfl
    · exact .inr (by intro e; cases e))
theorem OwnB.base_le (h : OwnB w base A n c F) {k : Nat} (hk : blkOf A = some k) : base ≤ k ∧ k < w.heap.size := by
  refine h.1.lt k ?_
  rcases A with _ | a
  · cases hk
  · exact hk
end

theorem wpList_append_bytes {P : Program} (w : World) {ops : Array Oper} {rest : List Oper} {o : Oper} {a : Act} {Q : Exit → Act → World → Prop} (hgd : o.guard = none) (s x : Operand) (t : TypeId)
    (ho : o.op = .call { callee := .builtin .append, args := #[s, x], argTypes := #[t, t] }) (ht : P.underlying t = some (.slice 5))
    (hinfo : (P.info? 5).map (fun i => (i.zero, i.size, i.bytes)) = some (some (.int .u8 0), 1, 1))
    (base : Nat) (A : Option Addr) (n c : Nat) (F : Nat → Nat) (hs : a.eval s = .slice A n c) (hown : OwnB w base A n c F)
    (B : Option Addr) (m d : Nat) (G : Nat → Nat) (hx : a.eval x = .slice B m d) (hsrc : Bytes w B m G) (hnil : B = none → d = 0) (hsmall : n + m ≤ 140737488355328) (hbase : base ≤ w.heap.size)
    (h : ∀ A' c' w', OwnB w' base A' (n + m) c' (catF F n G) → w.grownBy w' (blkOf A) → (blkOf A' = blkOf A ∨ blkOf A' = some w.heap.size) → wpList P ops Q rest (a.put o.dst (.slice A' (n + m) c')) w') : wpList P ops Q (o :: rest) a w := by
  obtain ⟨i0, hi0, hz0, hz1, hz2⟩ := info_parts hinfo
  rcases B with _ | ad
  · have hm : m = 0 := by
      rcases Nat.eq_zero_or_pos m with h0 | h0
      · exact h0
      · obtain ⟨b, ob, e, _⟩ := hsrc.2.2 h0; cases e
    have hd := hnil rfl
    subst hm hd
    refine wpList_append_own_none hgd s x t ho base _ i0 1 ht hi0 _ n _ hs hown.1 hx ?_
    exact h A c w (hown.congr fun i hi => by unfold catF; rw [if_pos hi]) (World.grownBy.refl w _) (.inl rfl)
  · refine wpList_append_own_at w hgd s x t ho base _ i0 (.int .u8 0) 1 1 ht hi0 hz0 hz1 hz2 rfl (by omega) _ n _ hs hown.1 ad m d (cellsOfF G m) hx (by simp [cellsOfF]) ?_ ?_ (by unfold maxLen; omega) (by omega) hbase ?_
    · intro j v hv
      obtain ⟨hj, rfl⟩ := cellsOfF_get hv
      obtain ⟨b, ob, e, hc⟩ := hsrc.2.2 (by omega)
      injection e with e
      subst e
      have := hc j hj
      unfold Addr.add
      split
      · rename_i h0; subst h0; simpa using this
      · simpa using this
    · intro v hv
      obtain ⟨k, _, rfl⟩ := List.mem_map.1 hv
      rfl
    · intro v' w' ho1 hg1 _ hb1
      rw [cells_cat] at ho1
      have hF : ∀ i, i < n + m → catF F n G i < 256 := fun i hi => by
        unfold catF
        split
        · exact hown.2.1 i (by omega)
        · exact hsrc.2.1 _ (by omega)
      have hg2 : w.grownBy w' (blkOf A) := by rcases A with _ | a0 <;> exact hg1
      have hb2 : v'.ownBlock = blkOf A ∨ v'.ownBlock = some w.heap.size := by rcases A with _ | a0 <;> exact hb1
      have ho2 := ho1
      rcases ho1 with ⟨_, ⟨rfl, h0⟩ | ⟨g, cap, cur, rfl, _, _, hc1, hc2, _⟩⟩
      · have := h none 0 w' ⟨by rw [h0] at ho2 ⊢; exact ho2, hF, by omega, by omega, fun _ => rfl⟩ hg2 hb2
        rw [h0] at this
        exact this
      · exact h (some ⟨g, 0, none⟩) cap w' ⟨ho2, hF, hc1, by unfold maxLen at hc2; exact hc2, fun e => by cases e⟩ hg2 hb2
def pushF (F : Nat → Nat) (n v : Nat) (i : Nat) : Nat := if i < n then F i else v
theorem one_bytes (w : World) (z : Int) (h0 : 0 ≤ z) (h1 : z < 256) : Bytes (w.alloc (.cells #[.int .u8 z] 5)) (some ⟨w.heap.size, 0, none⟩) 1 (fun _ => z.toNat) := by
  refine ⟨by omega, fun _ _ => (by omega : z.toNat < 256), fun _ => ⟨_, _, rfl, fun i hi => ?_⟩⟩
  obtain rfl : i = 0 := by omega
  rw [Int.toNat_of_nonneg h0]
  simp
/-- One byte is appended: it lies in a new block of its own. -/
theorem wpList_push {P : Program} (w : World) {ops : Array Oper} {rest : List Oper} {o : Oper} {a : Act} {Q : Exit → Act → World → Prop} (hgd : o.guard = none) (s x : Operand) (t : TypeId)
    (ho : o.op = .call { callee := .builtin .append, args := #[s, x], argTypes := #[t, t] }) (ht : P.underlying t = some (.slice 5))
    (hinfo : (P.info? 5).map (fun i => (i.zero, i.size, i.bytes)) = some (some (.int .u8 0), 1, 1))
    (base : Nat) (A : Option Addr) (n c : Nat) (F : Nat → Nat) (hs : a.eval s = .slice A n c) (hown : OwnB w base A n c F)
    (z : Int) (hx : a.eval x = .slice (some ⟨w.heap.size, 0, none⟩) 1 1) (h0 : 0 ≤ z) (h1 : z < 256) (hsmall : n + 1 ≤ 140737488355328) (hbase : base ≤ w.heap.size)
    (h : ∀ A' c' w', OwnB w' base A' (n + 1) c' (pushF F n z.toNat) → Below base w w' → wpList P ops Q rest (a.put o.dst (.slice A' (n + 1) c')) w') :
    wpList P ops Q (o :: rest) a (w.alloc (.cells #[.int .u8 z] 5)) := by
  have o2 : OwnB (w.alloc (.cells #[.int .u8 z] 5)) base A n c F := hown.kept (World.grownBy_alloc w _ none) (by
    rcases A with _ | a
    · exact .inl rfl
    · exact .inr (by intro e; cases e))
  refine wpList_append_bytes _ hgd s x t ho ht hinfo base A n c F hs o2 _ 1 1 _ hx (one_bytes w z h0 h1) (fun e => by cases e) hsmall (by simp; omega) ?_
  intro A' c' w' ho' hg _
  refine h A' c' w' (ho'.congr fun i _ => rfl) ?_
  exact ((Below.refl base w).alloc hbase _).grown hg (by simp; omega) fun k hk => (o2.base_le hk).1
theorem own_empty (w : World) (F : Nat → Nat) : OwnB (w.alloc (.cells #[] 5)) w.heap.size (some ⟨w.heap.size, 0, none⟩) 0 0 F :=
  ⟨World.ownsRow_lit w #[] 0 (Nat.le_refl _) (by unfold maxLen; omega) rfl, fun i hi => absurd hi (by omega), by omega, by omega, fun e => by cases e⟩

theorem OwnB.cell {w : World} {base n c : Nat} {A : Option Addr} {F : Nat → Nat} (h : OwnB w base A n c F) {i : Nat} (hi : i < n) : ∃ g, A = some ⟨g, 0, none⟩ ∧ base ≤ g ∧ w.cell? ⟨g, i, none⟩ = some (.int .u8 (F i)) := by
  obtain ⟨g, e, hb, hc⟩ := h.at_ (by omega)
  exact ⟨g, e, hb, hc i hi⟩

end Go.Proofs.Ytmikemijdglgaaa
/- Bytes as a string; bytes that came in; the library's Clone. -/
namespace Go.Proofs.Ytmikemijdglgaaa
open Go.RowKit

def strF (F : Nat → Nat) (n : Nat) : ByteArray := strOfNums ((List.range n).map fun i => (F i : Int))
theorem strF_congr {F G : Nat → Nat} {n : Nat} (h : ∀ i, i < n → F i = G i) : strF F n = strF G n := by
  unfold strF
  congr 1
  apply List.map_congr_left
  intro i hi
  rw [h i (List.mem_range.1 hi)]
theorem strF_list (F : Nat → Nat) (n : Nat) : (strF F n).data.toList = (List.range n).map fun i => UInt8.ofNat (F i) := by
  unfold strF
  rw [strOfNums_data, List.map_map]
  rfl
theorem strF_inj {F G : Nat → Nat} {n : Nat} (hF : ∀ i, i < n → F i < 256) (hG : ∀ i, i < n → G i < 256) (h : (strF F n).data.toList = (strF G n).data.toList) : ∀ i, i < n → F i = G i := by
  rw [strF_list, strF_list] at h
  intro i hi
  have h1 := congrArg (fun l => l[i]?) h
  simp [hi] at h1
  have h2 := congrArg UInt8.toNat h1
  simp at h2
  have := hF i hi
  have := hG i hi
  omega

theorem conv_any {w : World} {A : Option Addr} {n : Nat} {F : Nat → Nat} (c : Nat) (h : Bytes w A n F) :
    (convert 42 9 (.slice A n c)).run Try.prog w = .ok (.string (strF F n)) w := by
  rcases Nat.eq_zero_or_pos n with h0 | h0
  · subst h0
    rcases A with _ | ad
    · rw [run_convert_bytes_nil w 42 5 Try.underlying42 Try.underlying5 0 c 9 Try.underlying9]
      rfl
    · rw [run_convert_bytes_string w _ _ _ _ 0 c Try.underlying42 Try.underlying5 Try.underlying9,
        run_bytesToString w ad 0 c [] (run_loadCells_list w ad [] (fun j v hj => by simp at hj))]
      rfl
  · obtain ⟨b, o, rfl, hc⟩ := h.2.2 h0
    exact run_convert_bytes_arg w 42 5 Try.underlying42 Try.underlying5 b o n c _ (by simp) (fun i hi => by rw [hc i hi]; simp [hi]) 9 Try.underlying9

/-- Bytes that came in as an argument. -/
theorem bytes_of_row {w : World} {a : Option Addr} {len cap : Nat} {zs : List Int}
    (h : (a = none ∧ len = 0 ∧ cap = 0 ∧ zs = []) ∨
      ∃ x, a = some x ∧ len ≤ cap ∧ cap ≤ maxLen ∧ zs.length = cap ∧ (∀ i, i < zs.length → w.cell? (x.add i) = some (.int .u8 (zs.getD i 0))) ∧ ∀ n ∈ zs, (Lit.int .u8 n).wf = true) :
    ∃ F, Bytes w a len F ∧ (a = none → cap = 0) ∧ len ≤ cap ∧ cap ≤ 9223372036854775807 := by
  rcases h with ⟨rfl, rfl, rfl, rfl⟩ | ⟨x, rfl, hl, hm, hz, hc, hw⟩
  · exact ⟨fun _ => 0, ⟨by omega, fun i hi => absurd hi (by omega), fun hn => absurd hn (by omega)⟩, fun _ => rfl, by omega, by omega⟩
  · unfold maxLen at hm
    refine ⟨fun i => (zs.getD i 0).toNat, ⟨by omega, fun i hi => ?_, fun hn => ?_⟩, (fun e => by cases e), hl, hm⟩
    · have hb := range_u8 hw i
      show (zs.getD i 0).toNat < 256
      rw [List.getD_eq_getElem?_getD]
      omega
    · obtain ⟨b, off, spot⟩ := x
      have h0 := hc 0 (by omega)
      have hspot : spot = none := by simpa [Addr.add] using World.cell?_spot h0
      subst hspot
      refine ⟨b, off, rfl, fun i hi => ?_⟩
      have h1 := hc i (by omega)
      have hb := range_u8 hw i
      have e : ((zs.getD i 0).toNat : Int) = zs.getD i 0 := by rw [List.getD_eq_getElem?_getD]; omega
      rw [e, ← h1]
      unfold Addr.add
      split
      · rename_i q; subst q; rfl
      · rfl

set_option maxHeartbeats 1000000 in
theorem clone_any (b o n c : Nat) (F : Nat → Nat) (w : World) (hb : Bytes w (some ⟨b, o, none⟩) n F) (hn : n ≤ 140737488355328) :
    Calls Try.prog 66 #[.slice (some ⟨b, o, none⟩) n c] w fun e w' =>
      ∃ B d, e = .returned (.slice B n d) ∧ OwnB w' w.heap.size B n d F ∧ Below w.heap.size w w' := by
  have L1 := (Below.refl w.heap.size w).alloc (Nat.le_refl _) (.cells #[] 5)
  have H1 := Lib.hid (hb.below L1 (Nat.le_refl _))
  have HO := Lib.hid (own_empty w F)
  have HL := Lib.hid L1
  clear L1
  have hnl := fun W : World => Lib.run_eql_slice_nil (P := Try.prog) W 42 5 (some ⟨b, o, none⟩) n c 0 0 Try.underlying42
  go_enter Try.func66, Try.ntmps66
  go_wp2_with (at_builtin; with_reducible refine wpList_append_bytes _ rfl (.tmp 5) (.tmp 6) 42 rfl Try.underlying42 u8infoAll w.heap.size _ _ _ _ rfl HO.out _ _ _ _ rfl H1.out ?d0 ?d1 ?d2 ?d3)
  case d0 => exact fun e => by cases e
  case d1 => omega
  case d2 => simp
  case d3 =>
    intro A1 c1 w1 o1 g1 _
    have l1 : Below w.heap.size w w1 := HL.out.grown g1 (by simp) (by rintro k ⟨⟩; exact Nat.le_refl _)
    have o2 : OwnB w1 w.heap.size A1 n c1 F := by
      have := o1.congr (G := F) fun i _ => by unfold catF; rw [if_neg (by omega), Nat.sub_zero]
      simpa only [Nat.zero_add] using this
    clear o1 g1
    go_wp2
    go_ret
    exact ⟨A1, c1, rfl, o2, l1⟩

end Go.Proofs.Ytmikemijdglgaaa
/- The check of bytes as a plain function on numbers: one step, eight steps, all bytes. -/
namespace Go.Proofs.Ytmikemijdglgaaa

/-- One step of the check: one place down, and the polynomial if the bit that fell out was 1. -/
def stp (c : Nat) : Nat := if c % 2 = 1 then (c / 2) ^^^ 3988292384 else c / 2
def stpN : Nat → Nat → Nat
  | 0, c => c
  | k + 1, c => stp (stpN k c)
def crcTo (F : Nat → Nat) : Nat → Nat
  | 0 => 4294967295
  | k + 1 => stpN 8 (crcTo F k ^^^ F k)
def crc (F : Nat → Nat) (n : Nat) : Nat := 4294967295 - crcTo F n

theorem xor_lt32 {a b : Nat} (ha : a < 4294967296) (hb : b < 4294967296) : a ^^^ b < 4294967296 := Nat.xor_lt_two_pow (n := 32) ha hb
theorem stp_lt {c : Nat} (h : c < 4294967296) : stp c < 4294967296 := by
  unfold stp
  split
  · exact xor_lt32 (by omega) (by omega)
  · omega
theorem stpN_lt {c : Nat} (h : c < 4294967296) : ∀ k, stpN k c < 4294967296
  | 0 => h
  | k + 1 => stp_lt (stpN_lt h k)
theorem crcTo_lt {F : Nat → Nat} : ∀ {n : Nat}, (∀ i, i < n → F i < 256) → crcTo F n < 4294967296
  | 0, _ => by unfold crcTo; omega
  | n + 1, h => by
    have h1 := crcTo_lt (n := n) (F := F) fun i hi => h i (by omega)
    have h2 := h n (by omega)
    exact stpN_lt (xor_lt32 h1 (by omega)) 8
theorem crcTo_congr {F G : Nat → Nat} : ∀ {n : Nat}, (∀ i, i < n → F i = G i) → crcTo F n = crcTo G n
  | 0, _ => rfl
  | n + 1, h => by
    unfold crcTo
    rw [crcTo_congr (n := n) fun i hi => h i (by omega), h n (by omega)]
theorem crc_congr {F G : Nat → Nat} {n : Nat} (h : ∀ i, i < n → F i = G i) : crc F n = crc G n := by unfold crc; rw [crcTo_congr h]
theorem crc_lt (F : Nat → Nat) (n : Nat) : crc F n < 4294967296 := by unfold crc; omega

/-- The model's own words for one step, at u32. -/
theorem and_one (c : Nat) : c &&& 1 = c % 2 := by simp [Nat.and_one_is_mod]
theorem and_all {c : Nat} (h : c < 4294967296) : c &&& 4294967295 = c := by
  have := Nat.and_two_pow_sub_one_eq_mod c 32
  simp at this
  rw [this]; omega

/-- xor bit by bit, from the lowest. -/
theorem xor_div_two (a b : Nat) : (a ^^^ b) / 2 = (a / 2) ^^^ (b / 2) := by
  have := Nat.shiftRight_xor_distrib (a := a) (b := b) (i := 1)
  simpa only [Nat.shiftRight_eq_div_pow, Nat.pow_one] using this
theorem xor_mod_two (a b : Nat) : (a ^^^ b) % 2 = if a % 2 = b % 2 then 0 else 1 := by
  have h := Nat.testBit_xor a b 0
  simp only [Nat.testBit_zero] at h
  have h3 : (a ^^^ b) % 2 < 2 := Nat.mod_lt _ (by omega)
  have h1 : a % 2 < 2 := Nat.mod_lt _ (by omega)
  have h2 : b % 2 < 2 := Nat.mod_lt _ (by omega)
  have e : ∀ x, (a ^^^ b) % 2 = x → decide (x = 1) = (decide (a % 2 = 1) ^^ decide (b % 2 = 1)) := fun x q => by rw [← q]; exact h
  have e2 := e _ rfl
  rcases Nat.mod_two_eq_zero_or_one a with ha | ha <;> rcases Nat.mod_two_eq_zero_or_one b with hb | hb <;> rcases Nat.mod_two_eq_zero_or_one (a ^^^ b) with hc | hc <;> rw [ha, hb, hc] at e2 <;> rw [ha, hb, hc] <;> first | rfl | exact absurd e2 (by decide)
theorem xor_split (a b : Nat) : a ^^^ b = 2 * ((a / 2) ^^^ (b / 2)) + (if a % 2 = b % 2 then 0 else 1) := by
  have h := xor_div_two a b
  have h2 := xor_mod_two a b
  omega
theorem xor_all (w x : Nat) (h : x < 2 ^ w) : (2 ^ w - 1) ^^^ x = 2 ^ w - 1 - x := by
  have e := congrArg BitVec.toNat (BitVec.allOnes_xor (x := BitVec.ofNat w x))
  simp only [BitVec.toNat_xor, BitVec.toNat_allOnes, BitVec.toNat_ofNat, BitVec.toNat_not, Nat.mod_eq_of_lt h] at e
  exact e
theorem xor_all32 {x : Nat} (h : x < 4294967296) : 4294967295 ^^^ x = 4294967295 - x := xor_all 32 x h

/-- One step of the check as the walk writes it. -/
theorem stp_model {c : Nat} (h : c < 4294967296) :
    bits BinOp.xor IntKind.u32 ((c : Int) / 2) (bits BinOp.and IntKind.u32 3988292384 (-bits BinOp.and IntKind.u32 (c : Int) 1 % 4294967296)) = (stp c : Int) := by
  have e1 : bits BinOp.and IntKind.u32 (c : Int) 1 = ((c % 2 : Nat) : Int) := by
    have := u32_and_nat c 1 h (by omega)
    rw [and_one] at this
    exact this
  rw [e1]
  have e2 : ((c : Int) / 2) = ((c / 2 : Nat) : Int) := by omega
  rw [e2]
  unfold stp
  split
  · rename_i hc
    rw [hc]
    have e3 : (-((1 : Nat) : Int) % 4294967296) = ((4294967295 : Nat) : Int) := by omega
    rw [e3]
    have e4 := u32_and_nat 3988292384 4294967295 (by omega) (by omega)
    rw [and_all (by omega)] at e4
    have e5 : bits BinOp.and IntKind.u32 3988292384 ((4294967295 : Nat) : Int) = ((3988292384 : Nat) : Int) := e4
    rw [e5]
    exact u32_xor_nat _ _ (by omega) (by omega)
  · rename_i hc
    have hc0 : c % 2 = 0 := by omega
    rw [hc0]
    have e3 : (-((0 : Nat) : Int) % 4294967296) = ((0 : Nat) : Int) := by omega
    rw [e3]
    have e4 := u32_and_nat 3988292384 0 (by omega) (by omega)
    rw [Nat.and_zero] at e4
    have e5 : bits BinOp.and IntKind.u32 3988292384 ((0 : Nat) : Int) = ((0 : Nat) : Int) := e4
    rw [e5]
    have e6 := u32_xor_nat (c / 2) 0 (by omega) (by omega)
    rw [Nat.xor_zero] at e6
    exact e6
theorem not_model {c : Nat} (h : c < 4294967296) : bits BinOp.xor IntKind.u32 4294967295 (c : Int) = ((4294967295 - c : Nat) : Int) := by
  have e := u32_xor_nat 4294967295 c (by omega) h
  rw [xor_all32 h] at e
  exact e
/-- What the loop of 'apart' keeps. -/
def Ap (A B a b out bit : Nat) : Prop := out + bit * (a ^^^ b) = A ^^^ B ∧ bit * a ≤ A ∧ bit * b ≤ B ∧ 0 < bit
theorem Ap.start (A B : Nat) : Ap A B A B 0 1 := ⟨by simp, by simp, by simp, by omega⟩
theorem Ap.bound {A B a b out bit : Nat} (h : Ap A B a b out bit) (hA : A < 4294967296) (hB : B < 4294967296) (hab : 0 < a ∨ 0 < b) : bit ≤ 4294967296 ∧ out ≤ 4294967296 := by
  obtain ⟨h1, h2, h3, _⟩ := h
  have hx := xor_lt32 hA hB
  constructor
  · rcases hab with h | h
    · have := Nat.mul_le_mul_left bit (show 1 ≤ a from h); omega
    · have := Nat.mul_le_mul_left bit (show 1 ≤ b from h); omega
  · have : 0 ≤ bit * (a ^^^ b) := Nat.zero_le _
    omega
theorem Ap.step {A B a b out bit : Nat} (h : Ap A B a b out bit) : Ap A B (a / 2) (b / 2) (if a % 2 = b % 2 then out else out + bit) (bit * 2) := by
  obtain ⟨h1, h2, h3, h4⟩ := h
  have e := xor_split a b
  have d1 : bit * 2 * (a / 2) ≤ bit * a := by rw [Nat.mul_assoc]; exact Nat.mul_le_mul_left bit (by omega)
  have d2 : bit * 2 * (b / 2) ≤ bit * b := by rw [Nat.mul_assoc]; exact Nat.mul_le_mul_left bit (by omega)
  refine ⟨?_, by omega, by omega, by omega⟩
  rw [← h1, e]
  split
  · rw [Nat.add_zero, Nat.mul_assoc]
  · rw [Nat.mul_add, Nat.mul_assoc, Nat.mul_one]; omega
theorem Ap.done {A B out bit : Nat} (h : Ap A B 0 0 out bit) : out = A ^^^ B := by
  have := h.1
  simpa using this
end Go.Proofs.Ytmikemijdglgaaa
/- The contracts of the check (frame.Check), of apart, and of the document's check. -/
namespace Go.Proofs.Ytmikemijdglgaaa
open Go.RowKit

set_option maxHeartbeats 400000 in
theorem check_any (A : Option Addr) (n c : Nat) (F : Nat → Nat) (w : World) (h : Bytes w A n F) :
    Calls Try.prog 72 #[.slice A n c] w fun e w' => e = .returned (.int .u32 (crc F n)) ∧ w = w' := by
  obtain ⟨hn, hF, hA⟩ := h
  have hs32 : IntKind.u32.signed = false := rfl
  go_enter Try.func72, Try.ntmps72
  go_wp2
  go_loop [3, 8] (fun t i => ∃ k : Nat, k ≤ n ∧ i = .int .i64 k ∧ t = .int .u32 (crcTo F k)) (fun _ i => n - (intOf i).toNat)
  case atStart => exact ⟨0, Nat.zero_le _, rfl, rfl⟩
  case round =>
    obtain ⟨k, hk, rfl, rfl⟩ := hrel
    by_cases hlt : k < n
    · obtain ⟨b, o, rfl, hc⟩ := hA (by omega)
      have hck := hc k hlt
      have hFk := hF k hlt
      have hx := crcTo_lt (F := F) (n := k) fun i hi => hF i (by omega)
      go_wp2
      rw [u32_xor_nat _ _ hx (by omega)]
      have hy := xor_lt32 hx (b := F k) (by omega)
      obtain ⟨y, hyy⟩ : ∃ y, y = crcTo F k ^^^ F k := ⟨_, rfl⟩
      rw [← hyy] at hy ⊢
      have HY := Lib.hid hyy
      clear hyy
      go_loop [3, 5, 18] (fun t _ i => ∃ j : Nat, j ≤ 8 ∧ i = .int .i64 j ∧ t = .int .u32 (stpN j y)) (fun _ _ i => 8 - (intOf i).toNat)
      case atStart => exact ⟨0, Nat.zero_le _, rfl, rfl⟩
      case round =>
        obtain ⟨j, hj, rfl, rfl⟩ := hrel
        have hz := stpN_lt hy j
        by_cases hlj : j < 8
        · go_wp2
          go_round
          case rel =>
            refine ⟨j + 1, by omega, by go_num, ?_⟩
            exact congrArg _ (stp_model hz)
          case measure => simp [intOf]; omega
        · go_wp2
          obtain rfl : j = 8 := by omega
          go_round
          case rel =>
            refine ⟨k + 1, by omega, by go_num, ?_⟩
            rw [HY.out]
            rfl
          case measure => simp [intOf]; omega
    · go_wp2
      obtain rfl : k = n := by omega
      go_ret
      have hx := crcTo_lt hF
      exact ⟨by exact congrArg _ (congrArg _ (not_model hx)), rfl⟩
end Go.Proofs.Ytmikemijdglgaaa
/- (frame_on_mem.py: its declarations are wip/mem's.) -/
/- The contracts of fits, Room, put and take. -/
namespace Go.Proofs.Ytmikemijdglgaaa
open Go.RowKit

def fitsB (n : Int) : Bool := decide (64 ≤ n ∧ n ≤ 4096)
theorem fitsB_t {n : Int} (h1 : 64 ≤ n) (h2 : n ≤ 4096) : fitsB n = true := decide_eq_true ⟨h1, h2⟩
theorem fitsB_f {n : Int} (h : n < 64 ∨ 4096 < n) : fitsB n = false := decide_eq_false (by omega)

theorem fits_any (n : Int) (w : World) : Calls Try.prog 65 #[.int .i64 n] w fun e w' => e = .returned (.bool (fitsB n)) ∧ w = w' := by
  by_cases h1 : 64 ≤ n
  · by_cases h2 : n ≤ 4096
    · have h := fitsB_t h1 h2
      have H := Lib.hid h
      clear h
      go_enter Try.func65, Try.ntmps65
      go_wp2
      go_ret
      exact ⟨by rw [H.out]; rfl, rfl⟩
    · have h := fitsB_f (n := n) (by omega)
      have H := Lib.hid h
      clear h
      go_enter Try.func65, Try.ntmps65
      go_wp2
      go_ret
      exact ⟨by rw [H.out]; rfl, rfl⟩
  · have h := fitsB_f (n := n) (by omega)
    have H := Lib.hid h
    clear h
    go_enter Try.func65, Try.ntmps65
    go_wp2
    go_ret
    exact ⟨by rw [H.out]; rfl, rfl⟩

/-- What put leaves: of m bytes from off on the number's bytes. -/
def putF (F : Nat → Nat) (off m v : Nat) (i : Nat) : Nat := if off ≤ i ∧ i < off + m then v / 256 ^ (i - off) % 256 else F i

theorem byte_at (v k : Nat) : ((v : Int) / 2 ^ (8 * k) % 256) = ((v / 256 ^ k % 256 : Nat) : Int) := by
  have e : (2 : Int) ^ (8 * k) = ((256 ^ k : Nat) : Int) := by rw [Int.pow_mul]; simp
  rw [e]
  simp
theorem putF_zero (F : Nat → Nat) (off v i : Nat) : F i = putF F off 0 v i := by unfold putF; rw [if_neg (by omega)]
theorem putF_step (F : Nat → Nat) (off k v i : Nat) : (if i = off + k then v / 256 ^ k % 256 else putF F off k v i) = putF F off (k + 1) v i := by
  unfold putF
  by_cases h : i = off + k
  · subst h; rw [if_pos rfl, if_pos (by omega)]; simp
  · rw [if_neg h]
    by_cases h2 : off ≤ i ∧ i < off + k
    · rw [if_pos h2, if_pos (by omega)]
    · rw [if_neg h2, if_neg (by omega)]

set_option maxHeartbeats 400000 in
theorem put64_any (g off m c n v : Nat) (F : Nat → Nat) (w : World) (h : BRow w g n F) (hm : off + m ≤ n) (hm8 : m ≤ 8) :
    Calls Try.prog 77 #[.slice (some ⟨g, off, none⟩) m c, .int .u64 v] w fun e w' => e = .returned (.tuple #[]) ∧ BRow w' g n (putF F off m v) ∧ w.grownBy w' (some g) := by
  go_enter Try.func77, Try.ntmps77
  go_wp2
  go_loopw [7] (fun i wr => ∃ k : Nat, k ≤ m ∧ i = .int .i64 k ∧ BRow wr g n (putF F off k v) ∧ w.grownBy wr (some g)) (fun i _ => m - (intOf i).toNat)
  case atStart => exact ⟨0, Nat.zero_le _, rfl, h.congr fun i _ => by unfold putF; rw [if_neg (by omega)], World.grownBy.refl w _⟩
  case round =>
    obtain ⟨k, hk, rfl, hr, hg⟩ := hrel
    by_cases hlt : k < m
    · have hc := hr.cell (i := off + k) (by omega)
      have hf := hr.frozen (off + k)
      go_wp2
      rw [byte_at]
      go_roundw
      case rel => exact ⟨k + 1, by omega, by go_num, (hr.set_ (off + k) _ (Nat.mod_lt _ (by omega))).congr fun i _ => putF_step F off k v i, hg.trans (grown_store _ _ _)⟩
      case measure => simp [intOf]; omega
    · obtain rfl : k = m := by omega
      go_wp2
      go_end0
      exact ⟨rfl, hr, hg⟩

set_option maxHeartbeats 400000 in
theorem put32_any (g off m c n v : Nat) (F : Nat → Nat) (w : World) (h : BRow w g n F) (hm : off + m ≤ n) (hm8 : m ≤ 4) :
    Calls Try.prog 71 #[.slice (some ⟨g, off, none⟩) m c, .int .u32 v] w fun e w' => e = .returned (.tuple #[]) ∧ BRow w' g n (putF F off m v) ∧ w.grownBy w' (some g) := by
  go_enter Try.func71, Try.ntmps71
  go_wp2
  go_loopw [7] (fun i wr => ∃ k : Nat, k ≤ m ∧ i = .int .i64 k ∧ BRow wr g n (putF F off k v) ∧ w.grownBy wr (some g)) (fun i _ => m - (intOf i).toNat)
  case atStart => exact ⟨0, Nat.zero_le _, rfl, h.congr fun i _ => putF_zero F off v i, World.grownBy.refl w _⟩
  case round =>
    obtain ⟨k, hk, rfl, hr, hg⟩ := hrel
    by_cases hlt : k < m
    · have hc := hr.cell (i := off + k) (by omega)
      have hf := hr.frozen (off + k)
      go_wp2
      rw [byte_at]
      go_roundw
      case rel => exact ⟨k + 1, by omega, by go_num, (hr.set_ (off + k) _ (Nat.mod_lt _ (by omega))).congr fun i _ => putF_step F off k v i, hg.trans (grown_store _ _ _)⟩
      case measure => simp [intOf]; omega
    · obtain rfl : k = m := by omega
      go_wp2
      go_end0
      exact ⟨rfl, hr, hg⟩

/-- The number that bytes are, the lowest first. -/
def leTo (F : Nat → Nat) : Nat → Nat
  | 0 => 0
  | k + 1 => leTo F k + F k * 256 ^ k
theorem leTo_lt {F : Nat → Nat} : ∀ {n : Nat}, (∀ i, i < n → F i < 256) → leTo F n < 256 ^ n
  | 0, _ => by simp [leTo]
  | n + 1, h => by
    have h1 := leTo_lt (n := n) fun i hi => h i (by omega)
    have h2 := h n (by omega)
    have h3 := Nat.mul_le_mul_right (256 ^ n) (show F n ≤ 255 by omega)
    rw [leTo, Nat.pow_succ]
    omega
theorem leTo_congr {F G : Nat → Nat} : ∀ {n : Nat}, (∀ i, i < n → F i = G i) → leTo F n = leTo G n
  | 0, _ => rfl
  | n + 1, h => by rw [leTo, leTo, leTo_congr (n := n) fun i hi => h i (by omega), h n (by omega)]

theorem or_disjoint {x f k : Nat} (hx : x < 256 ^ k) : x ||| f * 256 ^ k = x + f * 256 ^ k := by
  have e : (256 : Nat) ^ k = 2 ^ (8 * k) := by rw [Nat.pow_mul]
  rw [e] at hx ⊢
  have h := Nat.two_pow_add_eq_or_of_lt hx f
  rw [Nat.mul_comm (2 ^ (8 * k)) f] at h
  rw [Nat.or_comm, ← h, Nat.add_comm]
theorem small_mul {f k b : Nat} (hf : f < 256) (hk : k < b) : f * 256 ^ k < 256 ^ b := by
  have h1 := Nat.mul_le_mul_right (256 ^ k) (show f ≤ 255 by omega)
  have h2 : (256 : Nat) ^ (k + 1) ≤ 256 ^ b := Nat.pow_le_pow_right (by omega) (by omega)
  rw [Nat.pow_succ] at h2
  have h3 : 0 < (256 : Nat) ^ k := Nat.pow_pos (by omega)
  omega
theorem or64 {x f k : Nat} (hx : x < 256 ^ k) (hf : f < 256) (hk : k < 8) :
    bits BinOp.or IntKind.u64 (x : Int) (IntKind.u64.wrap ((f : Int) * 2 ^ (8 * k))) = ((x + f * 256 ^ k : Nat) : Int) := by
  have e : (2 : Int) ^ (8 * k) = ((256 ^ k : Nat) : Int) := by rw [Int.pow_mul]; simp
  have h1 := small_mul hf hk
  have h2 : (256 : Nat) ^ k ≤ 256 ^ 8 := Nat.pow_le_pow_right (by omega) (by omega)
  have e8 : (256 : Nat) ^ 8 = 18446744073709551616 := by decide
  rw [e8] at h1 h2
  have e2 : IntKind.u64.wrap ((f : Int) * 2 ^ (8 * k)) = ((f * 256 ^ k : Nat) : Int) := by
    rw [e, ← Int.natCast_mul, IntKind.wrap_u64]
    omega
  rw [e2, u64_or_nat _ _ (by omega) h1, or_disjoint hx]
theorem or32 {x f k : Nat} (hx : x < 256 ^ k) (hf : f < 256) (hk : k < 4) :
    bits BinOp.or IntKind.u32 (x : Int) (IntKind.u32.wrap ((f : Int) * 2 ^ (8 * k))) = ((x + f * 256 ^ k : Nat) : Int) := by
  have e : (2 : Int) ^ (8 * k) = ((256 ^ k : Nat) : Int) := by rw [Int.pow_mul]; simp
  have h1 := small_mul hf hk
  have h2 : (256 : Nat) ^ k ≤ 256 ^ 4 := Nat.pow_le_pow_right (by omega) (by omega)
  have e8 : (256 : Nat) ^ 4 = 4294967296 := by decide
  rw [e8] at h1 h2
  have e2 : IntKind.u32.wrap ((f : Int) * 2 ^ (8 * k)) = ((f * 256 ^ k : Nat) : Int) := by
    rw [e, ← Int.natCast_mul, IntKind.wrap_u32']
    omega
  rw [e2, u32_or_nat _ _ (by omega) h1, or_disjoint hx]

set_option maxHeartbeats 400000 in
theorem take64_any (A : Option Addr) (n c : Nat) (F : Nat → Nat) (w : World) (h : Bytes w A n F) (hn8 : n ≤ 8) :
    Calls Try.prog 74 #[.slice A n c] w fun e w' => e = .returned (.int .u64 (leTo F n)) ∧ w = w' := by
  obtain ⟨hn, hF, hA⟩ := h
  go_enter Try.func74, Try.ntmps74
  go_wp2
  go_loop [3, 7] (fun t i => ∃ k : Nat, k ≤ n ∧ i = .int .i64 k ∧ t = .int .u64 (leTo F k)) (fun _ i => n - (intOf i).toNat)
  case atStart => exact ⟨0, Nat.zero_le _, rfl, rfl⟩
  case round =>
    obtain ⟨k, hk, rfl, rfl⟩ := hrel
    have hx := leTo_lt (F := F) (n := k) fun i hi => hF i (by omega)
    by_cases hlt : k < n
    · obtain ⟨b, o, rfl, hc⟩ := hA (by omega)
      have hck := hc k hlt
      have hFk := hF k hlt
      go_wp2
      go_round
      case rel =>
        refine ⟨k + 1, by omega, by go_num, ?_⟩
        exact congrArg _ (or64 hx hFk (by omega))
      case measure => simp [intOf]; omega
    · go_wp2
      obtain rfl : k = n := by omega
      go_ret
      exact ⟨rfl, rfl⟩

set_option maxHeartbeats 400000 in
theorem take32_any (A : Option Addr) (n c : Nat) (F : Nat → Nat) (w : World) (h : Bytes w A n F) (hn8 : n ≤ 4) :
    Calls Try.prog 76 #[.slice A n c] w fun e w' => e = .returned (.int .u32 (leTo F n)) ∧ w = w' := by
  obtain ⟨hn, hF, hA⟩ := h
  go_enter Try.func76, Try.ntmps76
  go_wp2
  go_loop [3, 7] (fun t i => ∃ k : Nat, k ≤ n ∧ i = .int .i64 k ∧ t = .int .u32 (leTo F k)) (fun _ i => n - (intOf i).toNat)
  case atStart => exact ⟨0, Nat.zero_le _, rfl, rfl⟩
  case round =>
    obtain ⟨k, hk, rfl, rfl⟩ := hrel
    have hx := leTo_lt (F := F) (n := k) fun i hi => hF i (by omega)
    by_cases hlt : k < n
    · obtain ⟨b, o, rfl, hc⟩ := hA (by omega)
      have hck := hc k hlt
      have hFk := hF k hlt
      go_wp2
      go_round
      case rel =>
        refine ⟨k + 1, by omega, by go_num, ?_⟩
        exact congrArg _ (or32 hx hFk (by omega))
      case measure => simp [intOf]; omega
    · go_wp2
      obtain rfl : k = n := by omega
      go_ret
      exact ⟨rfl, rfl⟩
end Go.Proofs.Ytmikemijdglgaaa
/- The contracts of parts, putPair, isPair and Room. -/
namespace Go.Proofs.Ytmikemijdglgaaa
open Go.RowKit

set_option maxHeartbeats 400000 in
theorem parts_any (b o m c : Nat) (w : World) (hc : m + 20 ≤ c) (hm : c ≤ 9223372036854775807) :
    Calls Try.prog 69 #[.slice (some ⟨b, o, none⟩) (m + 20) c] w fun e w' =>
      e = .returned (.tuple #[.slice (some ⟨b, o, none⟩) m m, .slice (some ⟨b, o + m, none⟩) 4 4, .slice (some ⟨b, o + (m + 4), none⟩) 16 (c - (m + 4))]) ∧ ∃ q, w.drewN q = w' := by
  go_enter Try.func69, Try.ntmps69
  go_wp2
  go_quiet (fail)
  go_wp2
  go_ret3
  have e3 : m + 20 - 16 = m + 4 := by omega
  have e4 : m + 20 - (m + 4) = 16 := by omega
  refine ⟨?_, _, rfl⟩
  simp only [e3, e4] at *
  simp

theorem not_model64 {c : Nat} (h : c < 18446744073709551616) : bits BinOp.xor IntKind.u64 IntKind.u64.max (c : Int) = ((18446744073709551615 - c : Nat) : Int) := by
  have hm : IntKind.u64.max = 18446744073709551615 := by decide
  rw [hm]
  have e := u64_xor_nat 18446744073709551615 c (by omega) h
  rw [xor_all 64 c h] at e
  exact e
/-- What putPair leaves. -/
def pairF (F : Nat → Nat) (off v : Nat) : Nat → Nat := putF (putF F off 8 v) (off + 8) 8 (18446744073709551615 - v)

set_option maxHeartbeats 400000 in
theorem putPair_any (g off m c n v : Nat) (F : Nat → Nat) (w : World) (h : BRow w g n F) (h16 : 16 ≤ m) (hm : off + m ≤ n) (hc : m ≤ c) (hv : v < 18446744073709551616) :
    Calls Try.prog 70 #[.slice (some ⟨g, off, none⟩) m c, .int .u64 v] w fun e w' => e = .returned (.tuple #[]) ∧ BRow w' g n (pairF F off v) ∧ w.grownBy w' (some g) := by
  have hs64 : IntKind.u64.signed = false := rfl
  have hx := Lib.hid (not_model64 hv)
  go_enter Try.func70, Try.ntmps70
  go_wp2_with fail
  refine (put64_any g off 8 _ n v F _ h (by omega) (by omega)).mono ?_
  rintro e w1 ⟨rfl, h1, g1⟩
  go_wp2_with fail
  rw [hx.out]
  refine (put64_any g (off + 8) 8 _ n _ _ _ h1 (by omega) (by omega)).mono ?_
  rintro e w2 ⟨rfl, h2, g2⟩
  go_wp2
  go_end0
  exact ⟨rfl, h2, g1.trans g2⟩

def pairB (F : Nat → Nat) (v : Nat) : Bool := decide (leTo F 8 = v ∧ leTo (fun i => F (8 + i)) 8 = 18446744073709551615 - v)
theorem pairB_t {F : Nat → Nat} {v : Nat} (h1 : leTo F 8 = v) (h2 : leTo (fun i => F (8 + i)) 8 = 18446744073709551615 - v) : pairB F v = true := decide_eq_true ⟨h1, h2⟩
theorem pairB_f1 {F : Nat → Nat} {v : Nat} (h1 : ¬ leTo F 8 = v) : pairB F v = false := decide_eq_false fun h => h1 h.1
theorem pairB_f2 {F : Nat → Nat} {v : Nat} (h1 : ¬ leTo (fun i => F (8 + i)) 8 = 18446744073709551615 - v) : pairB F v = false := decide_eq_false fun h => h1 h.2

set_option maxHeartbeats 400000 in
theorem isPair_any (b o n c v : Nat) (F : Nat → Nat) (w : World) (h : Bytes w (some ⟨b, o, none⟩) n F) (h16 : 16 ≤ n) (hc : n ≤ c) (hv : v < 18446744073709551616) :
    Calls Try.prog 75 #[.slice (some ⟨b, o, none⟩) n c, .int .u64 v] w fun e w' => e = .returned (.bool (pairB F v)) ∧ w = w' := by
  have hs64 : IntKind.u64.signed = false := rfl
  have hx := Lib.hid (not_model64 hv)
  by_cases p1 : leTo F 8 = v
  · have q1 : ((leTo F 8 : Int) == (v : Int)) = true := by simp [p1]
    have pq : pairB F v = ((leTo (fun i => F (8 + i)) 8 : Int) == ((18446744073709551615 - v : Nat) : Int)) := by
      by_cases p2 : leTo (fun i => F (8 + i)) 8 = 18446744073709551615 - v
      · rw [pairB_t p1 p2, p2]; simp
      · rw [pairB_f2 p2]
        exact (beq_eq_false_iff_ne.2 (by omega)).symm
    have P := Lib.hid pq
    clear p1 pq
    go_enter Try.func75, Try.ntmps75
    go_wp2_with fail
    refine (take64_any _ 8 _ F _ (h.head 8 (by omega)) (by omega)).mono ?_
    rintro e w1 ⟨rfl, rfl⟩
    go_wp2_with fail
    refine (take64_any _ 8 _ _ _ (h.cut 8 8 (by omega)) (by omega)).mono ?_
    rintro e w1 ⟨rfl, rfl⟩
    go_wp2_with fail
    rw [hx.out]
    go_ret
    exact ⟨by rw [P.out]; rfl, rfl⟩
  · have P := Lib.hid (pairB_f1 p1)
    have q1 : ((leTo F 8 : Int) == (v : Int)) = false := by simp; omega
    clear p1
    go_enter Try.func75, Try.ntmps75
    go_wp2_with fail
    refine (take64_any _ 8 _ F _ (h.head 8 (by omega)) (by omega)).mono ?_
    rintro e w1 ⟨rfl, rfl⟩
    go_wp2
    go_ret
    exact ⟨by rw [P.out]; rfl, rfl⟩

def roomI (n : Int) : Int := if 64 ≤ n ∧ n ≤ 4096 then n - 36 else 0

theorem room_any (n : Int) (w : World) (h0 : -9223372036854775808 ≤ n) (h1 : n ≤ 9223372036854775807) :
    Calls Try.prog 47 #[.int .i64 n] w fun e w' => e = .returned (.int .i64 (roomI n)) ∧ w = w' := by
  by_cases h : 64 ≤ n ∧ n ≤ 4096
  · have R : Hid (roomI n = n - 36) := Lib.hid (if_pos h)
    obtain ⟨ha, hb⟩ := h
    have T := fitsB_t ha hb
    go_enter Try.func47, Try.ntmps47
    go_wp2_with (go_at_call 65; refine (fits_any _ _).mono ?_; rintro e w' ⟨rfl, rfl⟩)
    go_ret
    exact ⟨by rw [R.out]; rfl, rfl⟩
  · have R : Hid (roomI n = 0) := Lib.hid (if_neg h)
    have T := fitsB_f (n := n) (by omega)
    clear h
    go_enter Try.func47, Try.ntmps47
    go_wp2_with (go_at_call 65; refine (fits_any _ _).mono ?_; rintro e w' ⟨rfl, rfl⟩)
    go_ret
    exact ⟨by rw [R.out]; rfl, rfl⟩

theorem refRoom_any (n : Int) (w : World) (h0 : -9223372036854775808 ≤ n) (h1 : n ≤ 9223372036854775807) :
    Calls Try.prog 38 #[.int .i64 n] w fun e w' => e = .returned (.int .i64 (roomI n)) ∧ w = w' := by
  by_cases h : 64 ≤ n ∧ n ≤ 4096
  · have R : Hid (roomI n = n - 36) := Lib.hid (if_pos h)
    obtain ⟨ha, hb⟩ := h
    go_enter Try.func38, Try.ntmps38
    go_wp2
    go_ret
    exact ⟨by rw [R.out]; rfl, rfl⟩
  · have R : Hid (roomI n = 0) := Lib.hid (if_neg h)
    by_cases ha : 64 ≤ n
    · have hb : 4096 < n := by omega
      clear h
      go_enter Try.func38, Try.ntmps38
      go_wp2
      go_ret
      exact ⟨by rw [R.out]; rfl, rfl⟩
    · clear h
      go_enter Try.func38, Try.ntmps38
      go_wp2
      go_ret
      exact ⟨by rw [R.out]; rfl, rfl⟩
end Go.Proofs.Ytmikemijdglgaaa
/- (frame_on_mem.py: its declarations are wip/mem's.) -/
