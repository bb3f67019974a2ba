/- log's slots: the iterator's contract: what it owes of each slot's bytes. -/
import Derived.Test.YtmeijienfdefjaaLSlots
import Derived.Test.YtmeijienfdefjaaMSeqMem
import Derived.RangeFuncNested
import Derived.RangeFuncBound
import Derived.RangeFuncCalls
import Derived.RangeFuncLeaves
import Derived.Shelf.Abstract
import Derived.Shelf.RegionOpen
import Derived.WalkKit
import Derived.OwnWalkIn
import Derived.TacticsInMore
import Derived.LoopNIn
import Derived.LoopIn
import Derived.Sort.CutIn
namespace Go.Proofs.Ytmeijienfdefjaa
open Go.RowKit
set_option linter.unusedVariables false
set_option linter.unusedSimpArgs false

open Go.Shelf
attribute [local go_sem] Oper.semAt_some
/-- What a round that goes on keeps: what lay below n₀, and the iterator's own box. -/
def KpE (n₀ Bs : Nat) (A B : World) : Prop := Below n₀ A B ∧ B.heap[Bs]? = A.heap[Bs]?
theorem KpE.t {n₀ Bs : Nat} {A B C : World} (h : KpE n₀ Bs A B) (k : KpE n₀ Bs B C) : KpE n₀ Bs A C := ⟨h.1.trans k.1, k.2.trans h.2⟩
theorem KpE.b {n₀ Bs : Nat} {w : World} (hn : n₀ ≤ w.heap.size) (hb : Bs < w.heap.size) (W : World) (l : Nat) (o o' : Obj) (hl : w.heap.size ≤ l) (h : W.heap[l]? = some o) (h1 : o.isCells = false) (h2 : o.isWalk = false) : KpE n₀ Bs W (W.putObj l o') :=
  ⟨belowK_b hn W l o o' hl h h1 h2, (grownBy_putObj' W l o').block Bs (by have := (Array.getElem?_eq_some_iff.1 h).1; omega) (fun e => by cases e; omega)⟩
theorem KpE.refl (n₀ Bs : Nat) (W : World) : KpE n₀ Bs W W := ⟨Below.refl _ _, rfl⟩
theorem KpE.below {n₀ Bs : Nat} {A B : World} (h : Below A.heap.size A B) (hn : n₀ ≤ A.heap.size) (hb : Bs < A.heap.size) : KpE n₀ Bs A B := ⟨h.mono hn, h.block Bs hb⟩
theorem yield_two {e : Ending} {P Q : Prop} (h : (e = .returned (.bool true) ∧ P) ∨ (e = .returned (.bool false) ∧ Q)) : ∃ b : Bool, e = .returned (.bool b) ∧ ((b = true ∧ P) ∨ (b = false ∧ Q)) := by
  rcases h with ⟨h1, h2⟩ | ⟨h1, h2⟩
  · exact ⟨true, h1, .inl ⟨rfl, h2⟩⟩
  · exact ⟨false, h1, .inr ⟨rfl, h2⟩⟩
/-- A slot as it is handed out: its number, the block of its bytes. -/
abbrev encS (size : Nat) (x : Nat × Nat) : Array Value := #[.agg #[.int .i64 (x.1 : Nat), .slice (some ⟨x.2, 0, none⟩) size size], .int .i64 0]
/-- What the iterator owes of it. -/
def SlY (S : DS) (first count n₀ : Nat) (x : Nat × Nat) (W : World) : Prop := BRow W x.2 S.size (S.now (first + x.1)) ∧ n₀ ≤ x.2 ∧ x.1 < count
theorem fst_snoc {pre : List (Nat × Nat)} {k g : Nat} (h : pre.map Prod.fst = List.range k) : (pre ++ [(k, g)]).map Prod.fst = List.range (k + 1) := by rw [List.map_append, h, List.range_succ]; rfl
theorem fst_len {pre : List (Nat × Nat)} {k : Nat} (h : pre.map Prod.fst = List.range k) : pre.length = k := by have := congrArg List.length h; simpa using this
set_option maxRecDepth 100000 in
set_option maxHeartbeats 4000000 in
theorem slots1_in [Spare] (n : Nat) (hn : 2 ≤ n) (l Bs base first count : Nat) (M : DM) (S : DS) (w0 : World) (hD : Dsk w0 base M S) (hup : S.down = false) (hfc : first + count ≤ S.N) (J Jx : List (Nat × Nat) → World → Prop) (W : World) (hJ : AbidesFrom W.heap.size J)
    (hY : ∀ pre x W1, J pre W1 → SlY S first count w0.heap.size x W1 → pre.length < count → YieldAt Fence.wide (n - 1) Try.prog l (encS S.size x) W1 fun e W' =>
      (e = .returned (.bool true) ∧ J (pre ++ [x]) W' ∧ KpE w0.heap.size Bs W1 W') ∨ (e = .returned (.bool false) ∧ Jx (pre ++ [x]) W'))
    (hB0 : Below w0.heap.size w0 W) (hBsl : Bs < W.heap.size) (hBs : W.heap[Bs]? = some (.cells #[.pointer (some ⟨M.p, 0, none⟩), .int .i64 (first : Nat), .int .i64 (count : Nat)] 80)) (h0 : J [] W) :
    CallsIn Fence.wide n Try.prog 57 #[.func (.yield l) #[] #[], .pointer (some ⟨Bs, 0, none⟩)] W fun e W' => (∃ v, e = .returned v) ∧
      ((∃ xs, xs.map Prod.fst = List.range count ∧ J xs W') ∨ (∃ pre, (pre.map Prod.fst = List.range pre.length ∧ pre.length ≤ count) ∧ Jx pre W')) := by
  refine callsIn_of_wp Try.func57 rfl trivial ?_ rfl
  simp only [Try.ntmps57, List.size_toArray, List.length_cons, List.length_nil, Nat.reduceAdd, Nat.reduceSub, Array.replicate_succ, Array.replicate_zero, List.push_toArray, List.append_toArray, List.nil_append, List.cons_append]
  have hN := hD.hN
  have HD := Lib.hid hD
  have HY := Lib.hid hY
  have HJ := Lib.hid hJ
  have H0 := Lib.hid h0
  have HB := Lib.hid hB0
  have cz : W.cell? ⟨Bs, 2, none⟩ = some (.int .i64 (count : Nat)) := by simpa using cell_of_row W Bs 2 _ _ _ hBs
  have HBs := Lib.hid hBs
  have hn1 : 1 ≤ n := by omega
  clear hD hY hJ h0 hB0 hBs
  gi_wp2
  gi_loopw [8] (fun i wr => ∃ (k : Nat) (pre : List (Nat × Nat)), k ≤ count ∧ i = .int .i64 (k : Nat) ∧ pre.map Prod.fst = List.range k ∧ J pre wr ∧ KpE w0.heap.size Bs W wr ∧ W.heap.size ≤ wr.heap.size)
    (fun i _ => count - (intOf i).toNat)
  case atStart => exact ⟨0, [], Nat.zero_le _, rfl, rfl, H0.out, KpE.refl _ _ _, Nat.le_refl _⟩
  case round =>
    obtain ⟨k, pre, hk, rfl, hpre, hJs, hkp, hsz⟩ := hrel
    obtain ⟨wo, hwo⟩ : ∃ wo, wo = wr := ⟨_, rfl⟩
    subst hwo
    have HJs := Lib.hid hJs
    have HK := Lib.hid hkp
    have HPre := Lib.hid hpre
    have hBs2 : wo.heap[Bs]? = _ := hkp.2.trans HBs.out
    have cp : wo.cell? ⟨Bs, 0, none⟩ = some (.pointer (some ⟨M.p, 0, none⟩)) := by simpa using cell_of_row wo Bs 0 _ _ _ hBs2
    have cf : wo.cell? ⟨Bs, 1, none⟩ = some (.int .i64 (first : Nat)) := by simpa using cell_of_row wo Bs 1 _ _ _ hBs2
    clear hJs hkp hpre hBs2
    by_cases hlt : k < count
    · have HDk := Lib.hid (HD.out.below (HB.out.trans HK.out.1))
      have hrd := readDisk_ok (first + k) wo base M S HDk.out (by omega) hup
      have hsum : IntKind.i64.wrap ((first : Int) + (k : Int)) = ((first + k : Nat) : Int) := by rw [IntWalk.i64_in _ (by omega)]; rfl
      rw [Int.natCast_add] at hrd
      have HRd := Lib.hid hrd
      clear hrd
      gi_wp2
      refine ⟨trivial, (callsIn_wide.2 HRd.out).mono ?_⟩
      rintro e W2 ⟨rfl, hrow, l2⟩
      obtain ⟨g, hg⟩ : ∃ g, g = wo.heap.size := ⟨_, rfl⟩
      have hJ2 := HJ.out _ _ _ none HJs.out (grown_below (r := none) l2) (by simp)
      have hgn : w0.heap.size ≤ wo.heap.size := (HB.out.trans HK.out.1).size
      obtain ⟨fn, tmps, assign, body, hy, hRr⟩ := HY.out pre (k, g) W2 hJ2 ⟨by rw [hg]; exact hrow, by rw [hg]; exact hgn, hlt⟩ (by rw [fst_len HPre.out]; exact hlt)
      have HR := Lib.hid hRr
      have HKa := Lib.hid (HK.out.t (KpE.below l2 hgn (by have := (Array.getElem?_eq_some_iff.1 (HK.out.2.trans HBs.out)).1; exact this)))
      have hs2 := l2.size
      rw [← hg]
      have HPre2 := Lib.hid (fst_snoc (g := g) HPre.out)
      clear hrow l2 hJ2 hRr hg
      gi_wp2
      refine HR.out.mono ?_
      rintro e W3 (⟨rfl, hJ3, hk3⟩ | ⟨rfl, hJx3⟩)
      · have HJ3 := Lib.hid (And.intro hJ3 hk3)
        have hs3 := hk3.1.size
        clear hJ3 hk3 hy
        gi_wp2
        exact ⟨⟨k + 1, pre ++ [(k, g)], by omega, by go_num, HPre2.out, HJ3.out.1, HKa.out.t HJ3.out.2, by omega⟩, by simp [intOf]; omega⟩
      · have HJX := Lib.hid hJx3
        clear hJx3 hy
        gi_wp2
        refine bodyPost_ret (results_none rfl _ _ _) rfl ?_
        exact ⟨⟨_, rfl⟩, .inr ⟨_, ⟨by rw [fst_len HPre2.out]; exact HPre2.out, by rw [fst_len HPre2.out]; omega⟩, HJX.out⟩⟩
    · obtain rfl : k = count := by omega
      gi_wp2
      go_end0
      exact ⟨⟨_, rfl⟩, .inl ⟨_, HPre.out, HJs.out⟩⟩
/-- The iterator over a log's slots, of a disk that is up. -/
theorem slots_seq [Spare] (n : Nat) (hn : 2 ≤ n) (Bs base first count : Nat) (M : DM) (S : DS) (w0 : World) (hD : Dsk w0 base M S) (hup : S.down = false) (hfc : first + count ≤ S.N) (w : World) (hB0 : Below w0.heap.size w0 w)
    (hBs : w.heap[Bs]? = some (.cells #[.pointer (some ⟨M.p, 0, none⟩), .int .i64 (first : Nat), .int .i64 (count : Nat)] 80)) :
    SeqMem Fence.wide n Try.prog 57 #[.pointer (some ⟨Bs, 0, none⟩)] (encS S.size) (SlY S first count w0.heap.size) (KpE w0.heap.size Bs) (fun xs => xs.map Prod.fst = List.range count) (fun pre => pre.map Prod.fst = List.range pre.length ∧ pre.length ≤ count) count w := fun l J Jx W hW hJ _ hY h0 =>
  slots1_in n hn l Bs base first count M S w0 hD hup hfc J Jx W hJ hY (hB0.trans (hW.mono hB0.size)) (Nat.lt_of_lt_of_le (Array.getElem?_eq_some_iff.1 hBs).1 hW.size) ((hW.block Bs (Array.getElem?_eq_some_iff.1 hBs).1).trans hBs) h0
end Go.Proofs.Ytmeijienfdefjaa
