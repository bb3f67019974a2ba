/- Merged texts: LLight, LArgs, LLatest, LReadEp, LGrpOf, LStep, LStC, DLight, DState, LDead. -/
import Derived.Test.YtdbfmllcapikkaaLod
import Derived.ProofKit
import Derived.OpenShut
import Derived.Lib.SmallJoins
import Derived.Deep.Slices
import Derived.Deep.Strs
/- the law's light: rows of rows of puts. -/
namespace Go.Proofs.Ytdbfmllcapikkaa
open Go.RowKit
set_option linter.unusedVariables false
set_option linter.unusedSimpArgs false

/-- A slice of puts, as plain data. -/
structure SlD where
  A : Option Addr
  n : Nat
  c : Nat
/-- A row of slices that can be read. -/
def RowG (w : World) (A : Option Addr) (n : Nat) (G : Nat → SlD) : Prop :=
  n ≤ 9223372036854775807 ∧ (∀ i, i < n → (G i).n ≤ 9223372036854775807) ∧ (0 < n → ∃ b o, A = some ⟨b, o, none⟩ ∧ ∀ i, i < n → w.cell? ⟨b, o + i, none⟩ = some (.slice (G i).A (G i).n (G i).c))
theorem RowG.below {w w' : World} {A : Option Addr} {n : Nat} {G : Nat → SlD} (h : RowG w A n G) (l : Below w.heap.size w w') : RowG w' A n G :=
  ⟨h.1, h.2.1, fun hn => by
    obtain ⟨b, o, e, hc⟩ := h.2.2 hn
    exact ⟨b, o, e, fun i hi => kept_l l (cell_lt' (hc i hi)) (hc i hi)⟩⟩
def lightGB (n : Nat) (G : Nat → SlD) : Bool := decide (n ≤ 8 ∧ ∀ i, i < n → (G i).n ≤ 8)
set_option maxRecDepth 100000 in
set_option maxHeartbeats 4000000 in
theorem light_any (more first count epoch : Int) (A : Option Addr) (n c : Nat) (G : Nat → SlD) (w : World) (hG : RowG w A n G) :
    Calls Try.prog 9 #[.agg #[.int .u8 more, .int .i64 first, .int .i64 count, .int .i64 epoch, .slice A n c]] w fun e w' => e = .returned (.bool (lightGB n G)) ∧ Below w.heap.size w w' := by
  obtain ⟨W0, hW0⟩ : ∃ W0 : World, W0 = w.alloc (.cells #[.int .u8 more, .int .i64 first, .int .i64 count, .int .i64 epoch, .slice A n c] 24) := ⟨_, rfl⟩
  have l0 : Below w.heap.size w W0 := by rw [hW0]; exact (Below.refl _ _).alloc (Nat.le_refl _) _
  have c4 : W0.cell? ⟨w.heap.size, 4, none⟩ = some (.slice A n c) := by rw [hW0]; simp
  have hG0 := hG.below l0
  have hn := hG.1
  have HG := Lib.hid hG0
  have L0 := Lib.hid l0
  have H0 := Lib.hid hW0
  clear hG hG0 l0 hW0
  by_cases h8 : 8 < n
  · have hB : lightGB n G = false := decide_eq_false fun h => by omega
    rw [hB]
    have h8I : (8 : Int) < (n : Int) := by omega
    go_enter Try.func9, Try.ntmps9
    go_upto_region 1 with (fail)
    rw [← H0.out]
    go_wp2
    go_ret
    exact ⟨rfl, L0.out⟩
  · have h8I : ¬ (8 : Int) < (n : Int) := by omega
    go_enter Try.func9, Try.ntmps9
    go_upto_region 1 with (fail)
    rw [← H0.out]
    go_wp2
    go_loopw [3] (fun i wr => ∃ k : Nat, k ≤ n ∧ i = .int .i64 (k : Nat) ∧ (∀ j, j < k → (G j).n ≤ 8) ∧ wr = W0) (fun i _ => n - (intOf i).toNat)
    case atStart => exact ⟨0, Nat.zero_le _, rfl, fun j hj => absurd hj (by omega), rfl⟩
    case round =>
      obtain ⟨k, hk, rfl, hall, rfl⟩ := hrel
      by_cases hlt : k < n
      · obtain ⟨bb, o, rfl, hc⟩ := HG.out.2.2 (by omega)
        have ck := hc k hlt
        have hgn := HG.out.2.1 k hlt
        rcases hGk : G k with ⟨Ak, nk, dk⟩
        rw [hGk] at ck hgn
        dsimp only at ck hgn
        have HGk := Lib.hid hGk
        have HAll := Lib.hid hall
        clear hc hGk hall
        by_cases hk8 : 8 < nk
        · have hB : lightGB n G = false := decide_eq_false fun h => by have := h.2 k hlt; rw [HGk.out] at this; dsimp only at this; omega
          have HBB := Lib.hid hB
          clear hB
          have hkI : (8 : Int) < (nk : Int) := by omega
          go_wp2
          go_ret
          exact ⟨by rw [HBB.out]; rfl, L0.out⟩
        · have hkI : ¬ (8 : Int) < (nk : Int) := by omega
          go_wp2
          go_roundw
          case rel =>
            refine ⟨k + 1, by omega, by go_num, fun j hj => ?_, trivial⟩
            rcases Nat.lt_or_ge j k with h | h
            · exact HAll.out j h
            · obtain rfl : j = k := by omega
              rw [HGk.out]; show nk ≤ 8; omega
          case measure => simp [intOf]; omega
      · obtain rfl : k = n := by omega
        have hB : lightGB k G = true := decide_eq_true ⟨by omega, hall⟩
        have HBB := Lib.hid hB
        clear hall hB
        go_wp2
        go_ret
        exact ⟨by rw [HBB.out]; rfl, L0.out⟩
end Go.Proofs.Ytdbfmllcapikkaa
/- Puts, rows of puts, rows of rows of puts, ints that came in as arguments: from the form's reading to what the walks ask. -/
namespace Go.Proofs.Ytdbfmllcapikkaa
open Go.Joins Go.Deep Go.ChangeShapes Go.WideShapes Go.ChangeAt Go.RowKit
set_option linter.unusedVariables false

/-- Rows of puts: G i is the i-th row, Q i its puts. -/
def PutsG (w : World) (A : Option Addr) (n : Nat) (G : Nat → SlD) (Q : Nat → Nat → PutD) : Prop :=
  RowG w A n G ∧ ∀ i, i < n → Puts w (G i).A (G i).n (Q i)
theorem PutsG.below {w w' : World} {A : Option Addr} {n : Nat} {G : Nat → SlD} {Q : Nat → Nat → PutD} (h : PutsG w A n G Q) (l : Below w.heap.size w w') : PutsG w' A n G Q :=
  ⟨h.1.below l, fun i hi => (h.2 i hi).below l⟩
section
variable {H : Type} {enc : TypeId × Value → H} {w : World} {base : Nat} {held : Bool}
theorem lcells_int : Try.prog.cellsOf 3 = 1 := by kernel_rfl
theorem lcells_u8 : Try.prog.cellsOf 5 = 1 := by kernel_rfl
theorem lcells_put : Try.prog.cellsOf 94 = 3 := by kernel_rfl
theorem lcells_puts : Try.prog.cellsOf 40 = 1 := by kernel_rfl
theorem addr_add2 (b off k l : Nat) : ((⟨b, off, none⟩ : Addr).add k).add l = ⟨b, off + k + l, none⟩ := by
  unfold Addr.add
  split
  · rename_i q; subst q; split
    · rename_i q; subst q; rfl
    · rfl
  · split
    · rename_i q; subst q; rfl
    · rfl
theorem list_three {α : Type} : ∀ (l : List α), l.length = 3 → ∃ a b c, l = [a, b, c]
  | [a, b, c], _ => ⟨a, b, c, rfl⟩
def put0 : PutD := ⟨0, 0, 0⟩
def sl0 : SlD := ⟨none, 0, 0⟩
theorem put_at {fuel b o : Nat} {cs : List Value} {x : DataW H × List MemPlace} (h : DataW.trod enc Try.prog w base (fun _ => true) held fuel 94 cs = some x) (hl0 : cs.length = 3)
    (hc : ∀ j, j < 3 → w.cell? ⟨b, o + j, none⟩ = cs[j]?) : ∃ p : PutD, p.b < 256 ∧ w.cell? ⟨b, o, none⟩ = some (.int .i64 p.page) ∧ w.cell? ⟨b, o + 1, none⟩ = some (.int .u8 (p.b : Nat)) ∧ w.cell? ⟨b, o + 2, none⟩ = some (.int .i64 p.len) := by
  obtain ⟨xs, n, _, _, hl, hlen, hf⟩ := DataW.trod_struct Try.underlying94 h
  clear hl
  have hx3 : xs.length = 3 := hlen
  clear hlen
  obtain ⟨c0, c1, c2, rfl⟩ := list_three cs hl0
  obtain ⟨y0, y1, y2, rfl⟩ := list_three xs hx3
  have t0 : DataW.trod enc Try.prog w base (fun _ => true) held n 3 [c0] = some y0 := by simpa [lcells_int] using hf 0 _ rfl
  have t1 : DataW.trod enc Try.prog w base (fun _ => true) held n 5 [c1] = some y1 := by simpa [lcells_u8] using hf 1 _ rfl
  have t2 : DataW.trod enc Try.prog w base (fun _ => true) held n 3 [c2] = some y2 := by simpa [lcells_int] using hf 2 _ rfl
  obtain ⟨z0, e0, _, w0⟩ := DataW.trod_int Try.underlying3 t0
  obtain ⟨z1, e1, _, w1⟩ := DataW.trod_int Try.underlying5 t1
  obtain ⟨z2, e2, _, w2⟩ := DataW.trod_int Try.underlying3 t2
  simp only [List.cons.injEq, and_true] at e0 e1 e2
  subst e0 e1 e2
  have b1 := bounds_u8 w1
  refine ⟨⟨z0, z1.toNat, z2⟩, ?_, hc 0 (by omega), ?_, hc 2 (by omega)⟩
  · show z1.toNat < 256
    omega
  · show w.cell? ⟨b, o + 1, none⟩ = some (.int .u8 ((z1.toNat : Nat) : Int))
    rw [Int.toNat_of_nonneg (by omega)]
    exact hc 1 (by omega)
theorem puts_in {fuel : Nat} {v : Value} {x : DataW H × List MemPlace} (h : DataW.trod enc Try.prog w base (fun _ => true) held fuel 40 [v] = some x) :
    ∃ A n c P, v = .slice A n c ∧ Puts w A n P := by
  rcases open_slice Try.underlying40 h with ⟨hcs, _⟩ | ⟨a, len, cap, m, n, D, Pl, hcs, hb, hl, hm, hmm, hx, hi⟩
  · simp only [List.cons.injEq, and_true] at hcs
    exact ⟨none, 0, 0, fun _ => put0, hcs, by omega, fun i hi => absurd hi (by omega), fun hn => absurd hn (by omega)⟩
  · simp only [List.cons.injEq, and_true] at hcs
    unfold maxLen at hm
    rw [lcells_put] at hi
    have hm2 : m = cap := by simpa using hmm
    subst hm2
    have hall : 0 < m → ∃ b o, a = ⟨b, o, none⟩ ∧ ∀ i, i < m → ∃ p : PutD, p.b < 256 ∧ w.cell? ⟨b, o + i * 3, none⟩ = some (.int .i64 p.page) ∧ w.cell? ⟨b, o + i * 3 + 1, none⟩ = some (.int .u8 (p.b : Nat)) ∧ w.cell? ⟨b, o + i * 3 + 2, none⟩ = some (.int .i64 p.len) := fun h0 => by
      obtain ⟨b, off, spot⟩ := a
      have hspot : spot = none := by
        obtain ⟨cs', hc, _⟩ := hi 0 h0
        obtain ⟨_, hcl, hat⟩ := World.cells?_some hc
        have h0 := hat 0 (by omega)
        have hv : cs'[0]? = some (cs'[0]'(by omega)) := List.getElem?_eq_getElem (by omega)
        rw [hv] at h0
        simpa [Addr.add] using World.cell?_spot h0
      subst hspot
      refine ⟨b, off, rfl, fun i him => ?_⟩
      obtain ⟨cs', hc, ht⟩ := hi i him
      obtain ⟨_, hcl, hat⟩ := World.cells?_some hc
      refine put_at ht hcl fun j hj => ?_
      have hj := hat j hj
      rw [← hj, addr_add2]
    rcases Nat.eq_zero_or_pos m with h0 | h0
    · subst h0
      exact ⟨some a, len, 0, fun _ => put0, hcs, by omega, fun i hi => absurd hi (by omega), fun hn => absurd hn (by omega)⟩
    · obtain ⟨b, o, rfl, hX⟩ := hall h0
      obtain ⟨X, hX⟩ := Classical.axiomOfChoice (fun i => show ∃ p : PutD, i < m → p.b < 256 ∧ w.cell? ⟨b, o + i * 3, none⟩ = some (.int .i64 p.page) ∧ w.cell? ⟨b, o + i * 3 + 1, none⟩ = some (.int .u8 (p.b : Nat)) ∧ w.cell? ⟨b, o + i * 3 + 2, none⟩ = some (.int .i64 p.len) from by
        by_cases q : i < m
        · obtain ⟨X, hX⟩ := hX i q
          exact ⟨X, fun _ => hX⟩
        · exact ⟨put0, fun z => absurd z q⟩)
      exact ⟨some ⟨b, o, none⟩, len, m, X, hcs, by omega, fun i hi => (hX i (by omega)).1, fun _ => ⟨b, o, rfl, fun i hi => (hX i (by omega)).2⟩⟩
theorem groups_in {fuel : Nat} {v : Value} {x : DataW H × List MemPlace} (h : DataW.trod enc Try.prog w base (fun _ => true) held fuel 22 [v] = some x) :
    ∃ A n c G Q, v = .slice A n c ∧ PutsG w A n G Q := by
  rcases open_slice Try.underlying22 h with ⟨hcs, _⟩ | ⟨a, len, cap, m, n, D, Pl, hcs, hb, hl, hm, hmm, hx, hi⟩
  · simp only [List.cons.injEq, and_true] at hcs
    exact ⟨none, 0, 0, fun _ => sl0, fun _ _ => put0, hcs, ⟨by omega, fun i hi => absurd hi (by omega), fun hn => absurd hn (by omega)⟩, fun i hi => absurd hi (by omega)⟩
  · simp only [List.cons.injEq, and_true] at hcs
    unfold maxLen at hm
    rw [lcells_puts] at hi
    have hm2 : m = cap := by simpa using hmm
    subst hm2
    have hall : 0 < m → ∃ b o, a = ⟨b, o, none⟩ ∧ ∀ i, i < m → ∃ p : SlD × (Nat → PutD), p.1.n ≤ 9223372036854775807 ∧ Puts w p.1.A p.1.n p.2 ∧ w.cell? ⟨b, o + i, none⟩ = some (.slice p.1.A p.1.n p.1.c) := fun h0 => by
      obtain ⟨b, off, spot⟩ := a
      have hspot : spot = none := by
        obtain ⟨cs', hc, _⟩ := hi 0 h0
        obtain ⟨_, hcl, hat⟩ := World.cells?_some hc
        have h0 := hat 0 (by omega)
        have hv : cs'[0]? = some (cs'[0]'(by omega)) := List.getElem?_eq_getElem (by omega)
        rw [hv] at h0
        simpa [Addr.add] using World.cell?_spot h0
      subst hspot
      refine ⟨b, off, rfl, fun i him => ?_⟩
      obtain ⟨cs', hc, ht⟩ := hi i him
      obtain ⟨_, hcl, hat⟩ := World.cells?_some hc
      match cs', hcl with
      | [u], _ =>
        obtain ⟨A, k, c, P, rfl, hP⟩ := puts_in ht
        have hj := hat 0 (by omega)
        rw [addr_add2] at hj
        exact ⟨(⟨A, k, c⟩, P), hP.1, hP, by simpa using hj⟩
    rcases Nat.eq_zero_or_pos m with h0 | h0
    · subst h0
      exact ⟨some a, len, 0, fun _ => sl0, fun _ _ => put0, hcs, ⟨by omega, fun i hi => absurd hi (by omega), fun hn => absurd hn (by omega)⟩, fun i hi => absurd hi (by omega)⟩
    · obtain ⟨b, o, rfl, hX⟩ := hall h0
      obtain ⟨X, hX⟩ := Classical.axiomOfChoice (fun i => show ∃ p : SlD × (Nat → PutD), i < m → p.1.n ≤ 9223372036854775807 ∧ Puts w p.1.A p.1.n p.2 ∧ w.cell? ⟨b, o + i, none⟩ = some (.slice p.1.A p.1.n p.1.c) from by
        by_cases q : i < m
        · obtain ⟨X, hX⟩ := hX i q
          exact ⟨X, fun _ => hX⟩
        · exact ⟨(sl0, fun _ => put0), fun z => absurd z q⟩)
      exact ⟨some ⟨b, o, none⟩, len, m, fun i => (X i).1, fun i => (X i).2, hcs, ⟨by omega, fun i hi => (hX i (by omega)).1, fun _ => ⟨b, o, rfl, fun i hi => (hX i (by omega)).2.2⟩⟩, fun i hi => (hX i (by omega)).2.1⟩
end
end Go.Proofs.Ytdbfmllcapikkaa
/- log.Latest, of a disk that is up. -/
namespace Go.Proofs.Ytdbfmllcapikkaa
open Go.RowKit
set_option linter.unusedVariables false
set_option linter.unusedSimpArgs false

open Go.Shelf
attribute [local go_sem] Oper.semAt_some
/-- The greatest epoch of slots. -/
def latOf (S : DS) (first : Nat) (ns : List Nat) : Nat := ns.foldl (fun a i => max a (epochN (S.now (first + i)) (S.size - 20) i)) 0
theorem latOf_snoc (S : DS) (first : Nat) (ns : List Nat) (i : Nat) : latOf S first (ns ++ [i]) = max (latOf S first ns) (epochN (S.now (first + i)) (S.size - 20) i) := by unfold latOf; rw [List.foldl_append]; rfl
theorem epochN_le (F : Nat → Nat) (m i : Nat) : epochN F m i ≤ 1099511627776 := by
  unfold epochN
  split
  · split
    · rename_i h; exact h.2.1
    · omega
  · omega
theorem latOf_le (S : DS) (first : Nat) (ns : List Nat) : latOf S first ns ≤ 1099511627776 := by
  have : ∀ (ns : List Nat) (a : Nat), a ≤ 1099511627776 → ns.foldl (fun a i => max a (epochN (S.now (first + i)) (S.size - 20) i)) a ≤ 1099511627776 := by
    intro ns
    induction ns with
    | nil => exact fun a h => h
    | cons i ns ih => exact fun a h => ih _ (Nat.max_le.2 ⟨h, epochN_le _ _ _⟩)
  exact this ns 0 (by omega)
theorem slotRead_one (i b o n m c : Nat) (F : Nat → Nat) (w : World) (hi : i ≤ 1048576) (h1 : m + 20 ≤ n) (h2 : n ≤ m + 20) (h44 : 44 ≤ m) (hm : m ≤ 4076) (hc : n ≤ c) (hc2 : c ≤ 9223372036854775807) (hb : Bytes w (some ⟨b, o, none⟩) n F) (ep : Nat) (he : ep = epochN F m i) :
    Calls Try.prog 45 #[.agg #[.int .i64 i, .slice (some ⟨b, o, none⟩) n c]] w fun e w' => (∃ A k d, e = .returned (.tuple #[.int .i64 (ep : Nat), .slice A k d])) ∧ Below w.heap.size w w' :=
  (slotRead_any i b o n m c F w hi h1 h2 h44 hm hc hc2 hb).mono fun e w' h => by
    subst he
    obtain ⟨⟨h0, h1⟩ | ⟨_, B, d, h1, _⟩, h2⟩ := h
    · rw [h0]; exact ⟨⟨_, _, _, h1⟩, h2⟩
    · exact ⟨⟨_, _, _, h1⟩, h2⟩
/-- What stands while Latest runs. -/
def LtFix (w : World) (n0 q0 : Nat) (M : DM) (first count : Nat) (W : World) : Prop :=
  (Boxed W n0 3 (.int .i64 0) ∧ Boxed W (n0 + 1) 29 (.int .i64 0) ∧ W.heap[q0 + 1 + 1]? = some (.cells #[.pointer (some ⟨M.p, 0, none⟩), .int .i64 (first : Nat), .int .i64 (count : Nat)] 80 (0, 0))) ∧ Below n0 w W ∧ q0 + 3 ≤ W.heap.size
theorem LtFix.own {β : Type} {B n0 q0 : Nat} {w : World} {M : DM} {first count : Nat} (hn : n0 ≤ w.heap.size) (hB : n0 ≤ B) : OwnFrom B (fun (_ : β) W => LtFix w n0 q0 M first count W) := fun x A C row hs hg hr =>
  ⟨⟨fixed_own (B := B) x A C row hs.1.1 hg hr, fixed_own (B := B) x A C row hs.1.2.1 hg hr, fixed_own (B := B) x A C row hs.1.2.2 hg hr⟩, ownFrom_below hn hB x A C row hs.2.1 hg hr, Nat.le_trans hs.2.2 hg.size⟩
def LtI (w : World) (M : DM) (S : DS) (first count n0 q0 : Nat) (pre : List (Nat × Nat)) (W : World) : Prop := Boxed W (q0 + 1) 3 (.int .i64 (latOf S first (pre.map Prod.fst) : Nat)) ∧ LtFix w n0 q0 M first count W
theorem LtI.own {B n0 q0 : Nat} {w : World} {M : DM} {S : DS} {first count : Nat} (hn : n0 ≤ w.heap.size) (hB : n0 ≤ B) : OwnFrom B (LtI w M S first count n0 q0) := fun x A C row hs hg hr =>
  ⟨fixed_own (B := B) x A C row hs.1 hg hr, LtFix.own (B := B) hn hB x A C row hs.2 hg hr⟩
def LtBP (w : World) (M : DM) (S : DS) (first count n0 q0 : Nat) (xs : List (Nat × Nat)) (W : World) (e : Exit) (W' : World) : Prop :=
  e = .normal ∧ KeepsOthers W W' ∧ KpE n0 (q0 + 1 + 1) W W' ∧ LtI w M S first count n0 q0 xs W'
set_option maxRecDepth 100000 in
set_option maxHeartbeats 16000000 in
theorem latest_at [Spare] (base first count : Nat) (M : DM) (S : DS) (w : World) (hD : Dsk w base M S) (hup : S.down = false) (hpl : plB S.N first count) :
    Calls Try.prog 22 #[.pointer (some ⟨M.p, 0, none⟩), .int .i64 first, .int .i64 count] w fun e w' => e = .returned (.tuple #[.int .i64 (latOf S first (List.range count) : Nat), .int .i64 0]) ∧ Below w.heap.size w w' := by
  have hN := hD.hN.2
  have hS := hD.hS
  obtain ⟨p0, p1, p2, p3⟩ := hpl
  have hfc : first + count ≤ S.N := by omega
  obtain ⟨n0, hn0⟩ : ∃ n0, n0 = w.heap.size := ⟨_, rfl⟩
  obtain ⟨B0, hB0⟩ : ∃ B0 : World, B0 = (w.alloc (.cells #[.int .i64 0] 3)).alloc (.cells #[.int .i64 0] 29) := ⟨_, rfl⟩
  have hb0 : Below n0 w B0 := by
    subst hB0 hn0
    exact ((Below.refl _ _).alloc (Nat.le_refl _) _).alloc (by simp) _
  have hs0 : B0.heap.size = n0 + 2 := by subst hB0 hn0; simp
  have e1 : Boxed B0 n0 3 (.int .i64 0) := by subst hB0 hn0; exact (Boxed.new _ _ _).alloc _
  have e2 : Boxed B0 (n0 + 1) 29 (.int .i64 0) := by subst hB0 hn0; exact boxed_at (by simp) _ _
  have KP1 := Lib.hid ((placeOf_any first count B0 base M S (hD.below (hn0 ▸ hb0)) (by omega) (by omega) (by omega)).mono (R' := fun e w' => e = .returned (.tuple #[.agg #[.pointer (some ⟨M.p, 0, none⟩), .int .i64 (first : Nat), .int .i64 (count : Nat)], .int .i64 0]) ∧ Below B0.heap.size B0 w') (fun e w' h => by
    obtain ⟨⟨_, h1⟩ | ⟨h0, _⟩, h2⟩ := h
    · exact ⟨h1, h2⟩
    · exact absurd ⟨p0, p1, p2, p3⟩ h0))
  have HD := Lib.hid hD
  have HB0 := Lib.hid hb0
  have HBe := Lib.hid hB0
  have E := Lib.hid (And.intro e1 e2)
  have HN0 := Lib.hid hn0
  clear hD hb0 e1 e2
  refine (callsIn_wide (n := 8)).1 ?_
  refine callsIn_of_wp_marks Try.func22 rfl trivial ?_ rfl
  simp only [Try.ntmps22, List.size_toArray, List.length_cons, List.length_nil, Nat.reduceAdd, Nat.reduceSub, Array.replicate_succ, Array.replicate_zero, List.push_toArray, List.append_toArray, List.nil_append, List.cons_append]
  clear hn0 hB0
  gi_upto_region 1 with (fail)
  rw [← HBe.out, ← HN0.out]
  gi_wp2_with (first
    | (refine ⟨trivial, ?_⟩; gi_at_call 34; refine CallsIn.mono (callsIn_wide.2 KP1.out) ?_; rintro _ w1 ⟨rfl, l1⟩; have L1 := Lib.hid l1; have hs1 := l1.size; clear l1)
    | (refine ⟨trivial, ?_⟩; gi_at_call 36; refine CallsIn.mono (callsIn_wide.2 (slots_any _ _ _ _)) ?_; rintro _ _ ⟨rfl, rfl⟩))
  obtain ⟨q0, hq0⟩ : ∃ q0, q0 = w1.heap.size := ⟨_, rfl⟩
  obtain ⟨Wl, hWl⟩ : ∃ Wl : World, Wl = ((w1.alloc (.cells #[.pointer (some ⟨M.p, 0, none⟩), .int .i64 (first : Nat), .int .i64 (count : Nat)] 80)).alloc (.cells #[.int .i64 0] 3)).alloc (.cells #[.pointer (some ⟨M.p, 0, none⟩), .int .i64 (first : Nat), .int .i64 (count : Nat)] 80) := ⟨_, rfl⟩
  have hsl : Wl.heap.size = q0 + 3 := by subst hWl hq0; simp
  have hbl1 : Below w1.heap.size w1 Wl := by
    subst hWl
    exact (((Below.refl _ _).alloc (Nat.le_refl _) _).alloc (by simp) _).alloc (by simp; omega) _
  have hblB : Below B0.heap.size B0 Wl := L1.out.trans (hbl1.mono L1.out.size)
  have hbl : Below n0 w Wl := HB0.out.trans (hblB.mono (by omega))
  have bl : Boxed Wl (q0 + 1) 3 (.int .i64 0) := by subst hWl hq0; exact (boxed_at (by simp) _ _).alloc _
  have hBs : Wl.heap[q0 + 1 + 1]? = some (.cells #[.pointer (some ⟨M.p, 0, none⟩), .int .i64 (first : Nat), .int .i64 (count : Nat)] 80 (0, 0)) := by
    have := World.alloc_heap_new ((w1.alloc (.cells #[.pointer (some ⟨M.p, 0, none⟩), .int .i64 (first : Nat), .int .i64 (count : Nat)] 80)).alloc (.cells #[.int .i64 0] 3)) (.cells #[.pointer (some ⟨M.p, 0, none⟩), .int .i64 (first : Nat), .int .i64 (count : Nat)] 80)
    rw [← hWl] at this
    simpa [← hq0] using this
  have g1 : Boxed Wl n0 3 (.int .i64 0) := (hblB.block n0 (by omega)).trans E.out.1
  have g2 : Boxed Wl (n0 + 1) 29 (.int .i64 0) := (hblB.block (n0 + 1) (by omega)).trans E.out.2
  have hn0q : n0 + 2 ≤ q0 := by omega
  have hnw := HN0.out
  rw [← hWl, ← hq0]
  clear hWl hq0 hs1 hbl1
  have hsq := slots_seq (8 - 1) (by omega) (q0 + 1 + 1) base first count M S w HD.out hup hfc Wl (hnw ▸ hbl) hBs
  rw [← hnw] at hsq
  have hnle : n0 ≤ w.heap.size := Nat.le_of_eq hnw
  refine SeqMem.loopA rfl (by omega) (gf := 57) (lb := #[.pointer (some ⟨q0 + 1 + 1, 0, none⟩)]) rfl trivial (enters_of Try.func57 (by kernel_rfl) rfl)
    hsq (fun h k => KpE.t h k) (KpE.b (by omega) (by omega)) (Below.refl _ _) (fun _ => rfl)
    (LtI w M S first count n0 q0) (fun cd pre W => False) (LtI.own hnle (by omega)) (fun cd pre A C row hs hg hr => hs) ⟨bl, ⟨g1, g2, hBs⟩, hbl, by omega⟩
    (fun pre x a' W => LtI w M S first count n0 q0 pre W ∧ SlY S first count n0 x W ∧ ∃ B1, W.heap[B1]? = some (.cells #[.int .i64 (x.1 : Nat), .slice (some ⟨x.2, 0, none⟩) S.size S.size] 90 (0, 0)) ∧ a' = { tmps := #[.pointer (some ⟨M.p, 0, none⟩), .int .i64 (first : Nat), .int .i64 (count : Nat), undef, undef, undef, .pointer (some ⟨n0, 0, none⟩), .pointer (some ⟨n0 + 1, 0, none⟩), .pointer (some ⟨q0, 0, none⟩), .int .i64 0, .pointer (some ⟨q0 + 1, 0, none⟩), .pointer (some ⟨B1, 0, none⟩), .int .i64 0, undef, undef, .tuple #[.agg #[.pointer (some ⟨M.p, 0, none⟩), .int .i64 (first : Nat), .int .i64 (count : Nat)], .int .i64 0], .pointer (some ⟨M.p, 0, none⟩), .int .i64 (first : Nat), .int .i64 (count : Nat), .tuple #[.agg #[.pointer (some ⟨M.p, 0, none⟩), .int .i64 (first : Nat), .int .i64 (count : Nat)], .int .i64 0], .agg #[.pointer (some ⟨M.p, 0, none⟩), .int .i64 (first : Nat), .int .i64 (count : Nat)], .int .i64 0, .int .i64 0, .bool false, undef, .agg #[.pointer (some ⟨M.p, 0, none⟩), .int .i64 (first : Nat), .int .i64 (count : Nat)], .func (.func 57) #[] #[.pointer (some ⟨q0 + 1 + 1, 0, none⟩)], .agg #[.int .i64 (x.1 : Nat), .slice (some ⟨x.2, 0, none⟩) S.size S.size], .int .i64 0, undef, undef, undef, undef, undef, undef, undef, undef, undef, undef, undef, undef], defers := [] })
    (fun pre x a' W1 l o o' hl hs ho hc => by
      obtain ⟨h1, h4, B1, h5, h6⟩ := hs
      exact ⟨(LtI.own hnle (B := Wl.heap.size) (by omega)).putObj o' h1 hl ho hc, (slY_own (B := Wl.heap.size)).putObj o' h4 hl ho hc, B1, (fixed_own (B := Wl.heap.size)).putObj (s := ()) o' h5 hl ho hc, h6⟩)
    ?assign
    (fun xs W e a' W' => LtBP w M S first count n0 q0 xs W e W')
    ?body
    (fun xs W a' W' h => ⟨h.2.1, h.2.2.1, h.2.2.2⟩)
    (fun xs W a' W' h => by cases h.1)
    (fun xs W id a' W' h => by cases h.1)
    (fun xs W e a' W' h => .inl h.1)
    ?done (fun D c pre W _ _ h => h.elim)
  case assign =>
    rintro l pre x W K hI hy hlen hK
    have HKK := Lib.hid hK
    have HI := Lib.hid hI
    have HY := Lib.hid hy
    clear hK hI hy hsq hnw
    gi_wp2
    have hnw := HN0.out
    have hl3 : Below W.heap.size W (W.alloc (.cells #[.int .i64 (x.1 : Nat), .slice (some ⟨x.2, 0, none⟩) S.size S.size] 90)) := (Below.refl _ W).alloc (Nat.le_refl _) _
    have hsW := HI.out.2.2.2
    exact HKK.out _ _ ⟨(LtI.own hnle (B := Wl.heap.size) (by omega)).alloc _ HI.out, (slY_own (B := Wl.heap.size)).alloc _ HY.out, W.heap.size, World.alloc_heap_new _ _, rfl⟩ (KeepsOthers.alloc _ _) (KpE.below hl3 (by omega) (by omega))
  case body =>
    rintro l pre x a' W ⟨hI, hY, B1, hB1, rfl⟩ hlt
    obtain ⟨hrow, hx2, hx1⟩ := hY
    have hsW := hI.2.2.2
    have s0 : W.cell? ⟨B1, 0, none⟩ = some (.int .i64 (x.1 : Nat)) := by simp [World.cell?, hB1]
    have s1 : W.cell? ⟨B1, 1, none⟩ = some (.slice (some ⟨x.2, 0, none⟩) S.size S.size) := by simp [World.cell?, hB1]
    have hbytes := (hrow.bytes (o := 0) (m := S.size) (by omega)).congr (G := S.now (first + x.1)) (fun i hi => by simp)
    obtain ⟨ep, hep⟩ : ∃ ep, ep = epochN (S.now (first + x.1)) (S.size - 20) x.1 := ⟨_, rfl⟩
    have KC := Lib.hid (slotRead_one x.1 x.2 0 S.size (S.size - 20) S.size (S.now (first + x.1)) W (by omega) (by omega) (by omega) (by omega) (by omega) (Nat.le_refl _) (by omega) hbytes ep hep)
    have HEp := Lib.hid hep
    obtain ⟨la, hla⟩ : ∃ la, la = latOf S first (pre.map Prod.fst) := ⟨_, rfl⟩
    have HLa := Lib.hid hla
    have hI1 := hI.1
    rw [← hla] at hI1
    have HB := Lib.hid hI1
    have HI := Lib.hid hI
    clear hbytes hrow hB1 hx2 hsq hnw hep hla hI hI1
    gi_wp2_with (refine ⟨trivial, ?_⟩; gi_at_call 45; refine CallsIn.mono (callsIn_wide.2 KC.out) ?_; rintro _ w5 ⟨⟨A, k, d, rfl⟩, l5⟩; have b5 : Boxed w5 (q0 + 1) 3 (.int .i64 (la : Nat)) := (l5.block _ (by omega)).trans HB.out; have c5 := b5.cell; have f5 := b5.frozen; have HB5 := Lib.hid b5; have L5 := Lib.hid l5; clear b5 l5)
    all_goals
      have fin : ∀ v : Nat, v = max la ep → LtBP w M S first count n0 q0 (pre ++ [x]) W .normal (w5.setCell ⟨q0 + 1, 0, none⟩ (.int .i64 (v : Nat))) := by
        intro v hv
        have hs5 := L5.out.size
        have hF := HI.out.2
        have hset : ∀ q, q ≠ q0 + 1 → q < W.heap.size → (w5.setCell ⟨q0 + 1, 0, none⟩ (.int .i64 (v : Nat))).heap[q]? = W.heap[q]? := fun q h1 h2 => (Below.heap_setCell _ _ _ _ h1).trans (L5.out.block q h2)
        have hbW : Below n0 W (w5.setCell ⟨q0 + 1, 0, none⟩ (.int .i64 (v : Nat))) := (L5.out.mono (by omega)).setCell (p := ⟨q0 + 1, 0, none⟩) (by show n0 ≤ q0 + 1; omega) _
        have ev : v = latOf S first ((pre ++ [x]).map Prod.fst) := by rw [List.map_append, hv, HLa.out, HEp.out]; exact (latOf_snoc _ _ _ _).symm
        rw [ev] at hset hbW ⊢
        unfold LtBP
        refine ⟨rfl, (KeepsOthers.of_grownBy (grown_below (r := none) L5.out) (by simp)).trans (KeepsOthers.setCell _ _ _), ⟨hbW, hset _ (by omega) (by omega)⟩, Boxed.set _ HB5.out, ⟨(hset _ (by omega) (by omega)).trans hF.1.1, (hset _ (by omega) (by omega)).trans hF.1.2.1, (hset _ (by omega) (by omega)).trans hF.1.2.2⟩, hF.2.1.trans hbW, by rw [size_set]; omega⟩
      exact fin _ (by omega)
  case done =>
    rintro D xs W hDl hSx hI hK
    obtain ⟨la, hla⟩ : ∃ la, la = latOf S first (xs.map Prod.fst) := ⟨_, rfl⟩
    have hI1 := hI.1
    rw [← hla] at hI1
    have cG := hI1.cell
    have d1 := hI.2.1.1.cell
    have d2 := hI.2.1.2.1.cell
    have f1 := hI.2.1.1.frozen
    have f2 := hI.2.1.2.1.frozen
    rw [hSx] at hla
    have HLa := Lib.hid hla
    have HI := Lib.hid hI
    have HK := Lib.hid hK
    clear hI hI1 hK hsq hnw hla
    gi_wp2
    have hn1 : n0 ≠ D := fun e => by have := HI.out.2.1.1; have k := HK.out; rw [← e, this] at k; cases k
    have hn2 : n0 + 1 ≠ D := fun e => by have := HI.out.2.1.2.1; have k := HK.out; rw [← e, this] at k; cases k
    have hDk : ((W.setCell ⟨n0, 0, none⟩ (.int .i64 (la : Nat))).setCell ⟨n0 + 1, 0, none⟩ (.int .i64 0)).heap[D]? = some (.deferred (some [])) := ((Below.heap_setCell _ _ _ _ (by show D ≠ n0 + 1; omega)).trans (Below.heap_setCell _ _ _ _ (by show D ≠ n0; omega))).trans HK.out
    refine ⟨by simp, .inl ⟨_, _, rfl, run_takeDeferred hDk, ?_⟩⟩
    have r1 : Boxed (((W.setCell ⟨n0, 0, none⟩ (.int .i64 (la : Nat))).setCell ⟨n0 + 1, 0, none⟩ (.int .i64 0)).putObj D (.deferred none)) n0 3 (.int .i64 (la : Nat)) :=
      ((Boxed.set _ HI.out.2.1.1).other (by omega) _).kept (grownBy_putObj' _ D _) (fun e => hn1 (by cases e; rfl))
    have r2 : Boxed (((W.setCell ⟨n0, 0, none⟩ (.int .i64 (la : Nat))).setCell ⟨n0 + 1, 0, none⟩ (.int .i64 0)).putObj D (.deferred none)) (n0 + 1) 29 (.int .i64 0) :=
      (Boxed.set _ (Boxed.other HI.out.2.1.2.1 (by omega) _)).kept (grownBy_putObj' _ D _) (fun e => hn2 (by cases e; rfl))
    have k1 := r1.cell
    have k2 := r2.cell
    have hnw := HN0.out
    refine ⟨_, ?_, ⟨by rw [← HLa.out], ((HI.out.2.2.1.mono (Nat.le_of_eq hnw.symm)).setCell (p := ⟨n0, 0, none⟩) (by show w.heap.size ≤ n0; omega) _ |>.setCell (p := ⟨n0 + 1, 0, none⟩) (by show w.heap.size ≤ n0 + 1; omega) _).trans (belowK_b (w := w) (Nat.le_refl _) _ D _ _ (by omega) hDk rfl rfl)⟩⟩
    simp [results, Try.f22, go_sem, k1, k2]
end Go.Proofs.Ytdbfmllcapikkaa
/- log.Read, where the epoch is none. -/
namespace Go.Proofs.Ytdbfmllcapikkaa
open Go.RowKit
set_option linter.unusedVariables false
set_option linter.unusedSimpArgs false

set_option maxRecDepth 100000 in
set_option maxHeartbeats 4000000 in
theorem read_ep (dv : Value) (p : Nat) (first count epoch : Int) (he : isEpochB epoch = false) (w : World) (hP : ∀ W, Below w.heap.size w W → Calls Try.prog 34 #[dv, .int .i64 first, .int .i64 count] W fun e w' => e = .returned (.tuple #[.agg #[.pointer (some ⟨p, 0, none⟩), .int .i64 first, .int .i64 count], .int .i64 0]) ∧ Below W.heap.size W w') :
    Calls Try.prog 13 #[dv, .int .i64 first, .int .i64 count, .int .i64 epoch] w fun e w' => e = .returned (.tuple #[.slice none 0 0, .int .i64 1]) ∧ Below w.heap.size w w' := by
  obtain ⟨B0, hB0⟩ : ∃ B0 : World, B0 = ((w.alloc (.cells #[.int .i64 epoch] 3)).alloc (.cells #[.slice none 0 0] 32)).alloc (.cells #[.int .i64 0] 29) := ⟨_, rfl⟩
  have hb0 : Below w.heap.size w B0 := by
    subst hB0
    exact (((Below.refl _ _).alloc (Nat.le_refl _) _).alloc (by simp) _).alloc (by simp; omega) _
  have hs0 : B0.heap.size = w.heap.size + 3 := by subst hB0; simp
  have e0 : Boxed B0 w.heap.size 3 (.int .i64 epoch) := by subst hB0; exact ((Boxed.new _ _ _).alloc _).alloc _
  have e1 : Boxed B0 (w.heap.size + 1) 32 (.slice none 0 0) := by subst hB0; exact (boxed_at (by simp) _ _).alloc _
  have e2 : Boxed B0 (w.heap.size + 1 + 1) 29 (.int .i64 0) := by subst hB0; exact boxed_at (by simp) _ _
  have KP := Lib.hid (hP B0 hb0)
  have HB := Lib.hid hB0
  have HE := Lib.hid (And.intro hb0 (And.intro e1 e2))
  have HE0 := Lib.hid e0
  have HEp := Lib.hid he
  rw [HB.out] at KP
  clear hB0 hb0 e0 e1 e2 hP he
  go_enter Try.func13, Try.ntmps13
  go_upto_region 1 with (fail)
  rw [← HB.out] at KP ⊢
  go_wp2_with (first
    | (go_at_call 35; refine (isEpoch_any _ _).mono ?_; rintro _ _ ⟨rfl, rfl⟩; rw [HEp.out])
    | (go_at_call 34; refine KP.out.mono ?_; rintro _ w1 ⟨rfl, l1⟩; have hs1 := l1.size; have b1 : Boxed w1 (w.heap.size + 1) 32 (.slice none 0 0) := (l1.block _ (by omega)).trans HE.out.2.1; have b2 : Boxed w1 (w.heap.size + 1 + 1) 29 (.int .i64 0) := (l1.block _ (by omega)).trans HE.out.2.2; have b0 : Boxed w1 w.heap.size 3 (.int .i64 epoch) := (l1.block _ (by omega)).trans HE0.out; have c0 := b0.cell; have hl0 : w.heap.size < w1.heap.size := (by omega); have c1 := b1.cell; have c2 := b2.cell; have f1 := b1.frozen; have f2 := b2.frozen; have hl1 : w.heap.size + 1 < w1.heap.size := (by omega); have hl2 : w.heap.size + 1 + 1 < w1.heap.size := (by omega); have HL := Lib.hid (And.intro l1 (And.intro b1 b2)); clear l1 b0 b1 b2))
  have b1 := ((Boxed.set (.slice none 0 0) HL.out.2.1).other (B' := w.heap.size + 1 + 1) (by omega) (.int .i64 1)).alloc (.cells #[.pointer (some ⟨p, 0, none⟩), .int .i64 first, .int .i64 count] 80)
  have b2 := (Boxed.set (.int .i64 1) (HL.out.2.2.other (B' := w.heap.size + 1) (by omega) (.slice none 0 0))).alloc (.cells #[.pointer (some ⟨p, 0, none⟩), .int .i64 first, .int .i64 count] 80)
  have k1 := b1.cell
  have k2 := b2.cell
  refine bodyPost_ret (v := .tuple #[.slice none 0 0, .int .i64 1]) (by simp [results, Try.results13, go_sem, k1, k2]) rfl ⟨rfl, ?_⟩
  exact (((HE.out.1.trans (HL.out.1.mono HE.out.1.size)).setCell (p := ⟨w.heap.size + 1, 0, none⟩) (by show w.heap.size ≤ w.heap.size + 1; omega) _).setCell (p := ⟨w.heap.size + 1 + 1, 0, none⟩) (by show w.heap.size ≤ w.heap.size + 1 + 1; omega) _).alloc (by rw [size_set, size_set]; omega) _
/-- Read, where no log may stand or the epoch is none. -/
theorem read_err [Spare] (first count epoch : Int) (w : World) (base : Nat) (M : DM) (S : DS) (h : Dsk w base M S) (f0 : -9223372036854775808 ≤ first) (f1 : first ≤ 9223372036854775807) (c1 : count ≤ 9223372036854775807) (hno : ¬ (plB S.N first count ∧ isEpochB epoch = true)) :
    Calls Try.prog 13 #[.pointer (some ⟨M.p, 0, none⟩), .int .i64 first, .int .i64 count, .int .i64 epoch] w fun e w' => e = .returned (.tuple #[.slice none 0 0, .int .i64 1]) ∧ Below w.heap.size w w' := by
  by_cases hp : plB S.N first count
  · refine read_ep _ M.p first count epoch (by cases h : isEpochB epoch with | false => rfl | true => exact absurd ⟨hp, h⟩ hno) w fun W l => (placeOf_any first count W base M S (h.below l) f0 f1 c1).mono fun e w' k => ?_
    obtain ⟨⟨_, k1⟩ | ⟨k0, _⟩, k2⟩ := k
    · exact ⟨k1, k2⟩
    · exact absurd hp k0
  · exact read_off first count epoch w base M S h f0 f1 c1 hp
end Go.Proofs.Ytdbfmllcapikkaa
/- What the law's group has made, as Append wants it. -/
namespace Go.Proofs.Ytdbfmllcapikkaa
open Go.RowKit
set_option linter.unusedVariables false
set_option linter.unusedSimpArgs false

/-- A put as a change. -/
def pX (room : Nat) (P : Nat → PutD) (A : Nat → Option Addr) (i : Nat) : ChD := ⟨(P i).page, A i, putN room (P i), putN room (P i), fun _ => (P i).b⟩
theorem putN_le {room : Nat} (hr : room ≤ 100000) (p : PutD) : putN room p ≤ 100000 := by
  unfold putN
  split
  · exact hr
  · omega
theorem chCells_at {ls : List (Int × Value)} {j : Nat} {x : Int × Value} (h : ls[j]? = some x) : (chCells ls)[j * 2]? = some (.int .i64 x.1) ∧ (chCells ls)[j * 2 + 1]? = some x.2 := by
  induction ls generalizing j with
  | nil => simp at h
  | cons y l ih =>
    unfold chCells
    rw [List.flatMap_cons]
    match j with
    | 0 => simp at h; subst h; exact ⟨rfl, rfl⟩
    | j + 1 =>
      have q := ih (j := j) (by simpa using h)
      unfold chCells at q
      refine ⟨?_, ?_⟩
      · rw [show (j + 1) * 2 = j * 2 + 2 by omega]; exact q.1
      · rw [show (j + 1) * 2 + 1 = (j * 2 + 1) + 2 by omega]; exact q.2
theorem grp_of [Spare] {w0 w1 w2 : World} {base room n : Nat} {M : DM} {S : DS} {P : Nat → PutD} {v : Value} (hO : On w0 base M S w1) (hr : room ≤ 100000) (hn1 : 1 ≤ n) (hn : n ≤ 1000) (h : GrpR w1.heap.size w2 room P n v) :
    ∃ g c A, v = .slice (some ⟨g, 0, none⟩) n c ∧ Grp w2 M g 0 n (pX room P A) := by
  obtain ⟨ls, hls, hown, hpr⟩ := h
  obtain ⟨k, rfl⟩ : ∃ k, n = k + 1 := ⟨n - 1, by omega⟩
  obtain ⟨g, c, rfl⟩ := ownsRow_succ hown
  have hg := (hown.lt g rfl).1
  have hx : ∀ i, i < k + 1 → ∃ b, ls[i]? = some ((P i).page, .slice (some ⟨b, 0, none⟩) (putN room (P i)) (putN room (P i))) ∧ w1.heap.size ≤ b ∧ BRow w2 b (putN room (P i)) (fun _ => (P i).b) := fun i hi => by
    have hi' : i < ls.length := by omega
    obtain ⟨h1, b, h2, h3, h4⟩ := hpr i _ (List.getElem?_eq_getElem hi')
    exact ⟨b, by rw [List.getElem?_eq_getElem hi']; congr 1; exact Prod.ext h1 h2, h3, h4⟩
  refine ⟨g, c, fun i => if hi : i < k + 1 then some ⟨(hx i hi).choose, 0, none⟩ else none, rfl, by omega, fun i hi => ?_, awB_new hO hg, fun i hi => ?_⟩
  · obtain ⟨q1, q2, q3⟩ := (hx i hi).choose_spec
    have e : (pX room P (fun i => if hi : i < k + 1 then some ⟨(hx i hi).choose, 0, none⟩ else none) i).A = some ⟨(hx i hi).choose, 0, none⟩ := by unfold pX; dsimp only; rw [dif_pos hi]
    refine ⟨?_, Nat.le_refl _, Nat.le_trans (putN_le hr _) (by omega), (fun e' => by rw [e] at e'; cases e'), fun b o e' => ?_⟩
    · rw [e]; exact (q3.bytes (o := 0) (m := putN room (P i)) (by omega)).congr fun j _ => rfl
    · rw [e] at e'
      cases e'
      exact awB_new hO q2
  · obtain ⟨q1, q2, q3⟩ := (hx i hi).choose_spec
    have e : (pX room P (fun i => if hi : i < k + 1 then some ⟨(hx i hi).choose, 0, none⟩ else none) i).A = some ⟨(hx i hi).choose, 0, none⟩ := by unfold pX; dsimp only; rw [dif_pos hi]
    have hl := chCells_at q1
    have hlen := chCells_len ls
    have d : ∀ j u, (chCells ls)[j]? = some u → w2.cell? ⟨g, j, none⟩ = some u := fun j u hu => by
      obtain ⟨hj, _⟩ := List.getElem?_eq_some_iff.1 hu
      rw [World.ownsRow.cellAt (w := w2) (base := w1.heap.size) (e := 44) (size := 2) hown j (by omega)]
      exact hu
    refine ⟨?_, ?_⟩
    · rw [Nat.zero_add]; exact d _ _ hl.1
    · rw [Nat.zero_add, e]; exact d _ _ hl.2
set_option maxHeartbeats 2000000 in
set_option maxRecDepth 100000 in
/-- Append of no changes. -/
theorem append_empty [Spare] (b f cn ep nx : Nat) (dead : Bool) (A : Option Addr) (c : Nat) (w : World) (base : Nat) (M : DM) (S : DS) (h : Dsk w base M S)
    (hl : w.heap[b]? = some (.cells (lgCells M.p f cn ep nx dead) 85 (0, 0))) (hcn : cn ≤ 1048576) (hnx : nx ≤ cn) :
    Calls Try.prog 17 #[.pointer (some ⟨b, 0, none⟩), .slice A 0 c] w fun e w' => e = .returned (.int .i64 (if dead = true then 21 else 1)) ∧ Below w.heap.size w w' := by
  have KR := Lib.hid (refuse_any b f cn ep nx dead A 0 c (fun _ => ⟨0, none, 0, 0, fun _ => 0⟩) w base M S h hl (by omega) (by omega) (by omega) (by omega) ⟨by omega, fun i hi => absurd hi (by omega), fun hi => absurd hi (by omega)⟩)
  rw [show refuseI dead 0 (fun _ => (⟨0, none, 0, 0, fun _ => 0⟩ : ChD)) ((S.size : Int) - 45) ((cn : Int) - nx) = if dead = true then 21 else 1 by unfold refuseI; rw [if_pos rfl]] at KR
  clear h hl
  cases dead
  all_goals
    go_enter Try.func17, Try.ntmps17
    go_wp2_with fail
    refine KR.out.mono ?_
    rintro e w1 ⟨rfl, l1⟩
    have L1 := Lib.hid l1
    clear l1
    go_wp2
    go_ret
    exact ⟨rfl, L1.out⟩
end Go.Proofs.Ytdbfmllcapikkaa
/- One step of a law over a log: group and Append, as plain data; what is kept beside it. -/
namespace Go.Proofs.Ytdbfmllcapikkaa
open Go.RowKit
set_option linter.unusedVariables false
set_option linter.unusedSimpArgs false

/-- What is none of a disk's own lists, nor block b, is as it was. -/
def KeepT (b : Nat) (w w' : World) : Prop := ∀ k cs t, w.heap[k]? = some (.cells cs t (0, 0)) → k ≠ b → t ≠ 78 → t ≠ 42 → t ≠ 111 → w'.heap[k]? = some (.cells cs t (0, 0))
theorem KeepT.refl (b : Nat) (w : World) : KeepT b w w := fun _ _ _ h _ _ _ _ => h
theorem KeepT.trans {b : Nat} {x y z : World} (h : KeepT b x y) (k : KeepT b y z) : KeepT b x z := fun q cs t e h0 h1 h2 h3 => k q cs t (h q cs t e h0 h1 h2 h3) h0 h1 h2 h3
theorem KeepT.below {b : Nat} {w w' : World} (l : Below w.heap.size w w') : KeepT b w w' := fun k cs t e _ _ _ _ => (l.block k (Array.getElem?_eq_some_iff.1 e).1).trans e
theorem KeepT.turns [Spare] {b base : Nat} {M : DM} {S : DS} {w w' : World} (d : Dsk w base M S) (t : Turns base M w w') : KeepT b w w' := fun k cs ty e _ h1 h2 h3 => by
  obtain ⟨a1, a2, a3, a4⟩ := d.apartR e h1 h2 h3
  exact (t.block k (Array.getElem?_eq_some_iff.1 e).1 a1 a2 a3 a4).trans e
theorem KeepT.set {b i : Nat} {w : World} {v : Value} : KeepT b w (w.setCell ⟨b, i, none⟩ v) := fun k cs t e h0 _ _ _ => (Below.heap_setCell _ _ _ _ h0).trans e
theorem KeepT.brow {b g n : Nat} {w w' : World} {F : Nat → Nat} (h : KeepT b w w') (r : BRow w g n F) (hb : g ≠ b) : BRow w' g n F := by
  obtain ⟨⟨c, hc, hx⟩, h2⟩ := r
  exact ⟨⟨c, h g c _ hc hb (by decide) (by decide) (by decide), hx⟩, h2⟩

/-- A log, as plain data: its disk, its next slot, whether it is dead. -/
structure LS where
  S : DS
  nx : Nat
  dead : Bool
/-- A log over a disk, in memory. -/
def LSt [Spare] (w0 : World) (base b f cn ep : Nat) (M : DM) (L : LS) (w : World) : Prop :=
  (∃ v, On w0 base { M with vl := v } L.S w) ∧ w.heap[b]? = some (.cells (lgCells M.p f cn ep L.nx L.dead) 85 (0, 0)) ∧ base ≤ b
theorem LSt.below [Spare] {w0 w w' : World} {base b f cn ep : Nat} {M : DM} {L : LS} (h : LSt w0 base b f cn ep M L w) (l : Below w.heap.size w w') : LSt w0 base b f cn ep M L w' := by
  obtain ⟨⟨v, h1⟩, h2, h3⟩ := h
  exact ⟨⟨v, h1.below l⟩, (l.block b (Array.getElem?_eq_some_iff.1 h2).1).trans h2, h3⟩
theorem LSt.from0 [Spare] {w0 w : World} {base b f cn ep : Nat} {M : DM} {L : LS} (h : LSt w0 base b f cn ep M L w) : Below base w0 w := by
  obtain ⟨⟨v, h1⟩, _⟩ := h
  exact h1.b
/-- A put as a change, wherever its load lies. -/
def pX0 (room : Nat) (P : Nat → PutD) (i : Nat) : ChD := ⟨(P i).page, none, putN room (P i), putN room (P i), fun _ => (P i).b⟩
def secL (ep : Nat) (L : LS) (n : Nat) (P : Nat → PutD) : Nat → Nat → Nat := logSec L.S.size ep L.nx n (pX0 (L.S.size - 45) P)
noncomputable def appR (cn : Nat) (L : LS) (n : Nat) (P : Nat → PutD) : Int := refuseI L.dead n (pX0 (L.S.size - 45) P) ((L.S.size : Int) - 45) ((cn : Int) - L.nx)
/-- What Append of a group of puts tells, and makes of a log. -/
noncomputable def appT (f cn ep : Nat) (L : LS) (n : Nat) (P : Nat → PutD) : Int × LS :=
  if appR cn L n P ≠ 0 then (appR cn L n P, L) else
    match (List.range n).find? (fun k => decide (wrI (f + L.nx) L.S.size (secL ep L n P) L.S k ≠ 0)) with
    | some k => (wrI (f + L.nx) L.S.size (secL ep L n P) L.S k, ⟨wrS (f + L.nx) L.S.size (secL ep L n P) L.S (k + 1), L.nx, true⟩)
    | none => (flushI (wrS (f + L.nx) L.S.size (secL ep L n P) L.S n), ⟨flushD (wrS (f + L.nx) L.S.size (secL ep L n P) L.S n), if flushI (wrS (f + L.nx) L.S.size (secL ep L n P) L.S n) = 0 then L.nx + n else L.nx, decide (flushI (wrS (f + L.nx) L.S.size (secL ep L n P) L.S n) ≠ 0)⟩)
theorem appT_no {f cn ep : Nat} {L : LS} {n : Nat} {P : Nat → PutD} (h : appR cn L n P ≠ 0) : appT f cn ep L n P = (appR cn L n P, L) := if_pos h
theorem appT_at {f cn ep k : Nat} {L : LS} {n : Nat} {P : Nat → PutD} (h : appR cn L n P = 0) (hk : k < n) (h1 : ∀ j, j < k → wrI (f + L.nx) L.S.size (secL ep L n P) L.S j = 0) (h2 : wrI (f + L.nx) L.S.size (secL ep L n P) L.S k ≠ 0) :
    appT f cn ep L n P = (wrI (f + L.nx) L.S.size (secL ep L n P) L.S k, ⟨wrS (f + L.nx) L.S.size (secL ep L n P) L.S (k + 1), L.nx, true⟩) := by
  unfold appT
  rw [if_neg (by rw [h]; exact fun q => q rfl), (List.find?_range_eq_some (i := k)).2 ⟨by simpa using h2, List.mem_range.2 hk, fun j hj => by simpa using h1 j hj⟩]
theorem appT_all {f cn ep : Nat} {L : LS} {n : Nat} {P : Nat → PutD} (h : appR cn L n P = 0) (h1 : ∀ j, j < n → wrI (f + L.nx) L.S.size (secL ep L n P) L.S j = 0) :
    appT f cn ep L n P = (flushI (wrS (f + L.nx) L.S.size (secL ep L n P) L.S n), ⟨flushD (wrS (f + L.nx) L.S.size (secL ep L n P) L.S n), if flushI (wrS (f + L.nx) L.S.size (secL ep L n P) L.S n) = 0 then L.nx + n else L.nx, decide (flushI (wrS (f + L.nx) L.S.size (secL ep L n P) L.S n) ≠ 0)⟩) := by
  unfold appT
  rw [if_neg (by rw [h]; exact fun q => q rfl), List.find?_range_eq_none.2 fun j hj => by simpa using h1 j hj]
theorem ret_inj {a b : Int} (h : Ending.returned (.int .i64 a) = .returned (.int .i64 b)) : a = b := by injection h with h; injection h
theorem LSt.wrote [Spare] {w0 w w1 w8 : World} {base b f cn ep i : Nat} {M : DM} {L : LS} {S' : DS} {x : Value} {nx' : Nat} {dead' : Bool} {v : Value} (hO : On w0 base { M with vl := v } L.S w1) (h2 : w1.heap[b]? = some (.cells (lgCells M.p f cn ep L.nx L.dead) 85 (0, 0))) (h3 : base ≤ b)
    (hL : Left S' base { M with vl := v } w1 w8) (hc : (lgCells M.p f cn ep L.nx L.dead).setIfInBounds i x = lgCells M.p f cn ep nx' dead') : LSt w0 base b f cn ep M ⟨S', nx', dead'⟩ (w8.setCell ⟨b, i, none⟩ x) ∧ KeepT b w1 (w8.setCell ⟨b, i, none⟩ x) := by
  obtain ⟨a1, a2, a3, a4⟩ := hO.d.apartR h2 (by decide) (by decide) (by decide)
  have hb1 := (Array.getElem?_eq_some_iff.1 h2).1
  obtain ⟨v', hd, ht, _, _⟩ := hL
  have hl8 := (ht.block b hb1 a1 a2 a3 a4).trans h2
  have hO8 : On w0 base { M with vl := v' } S' w8 := ⟨hd, ht.on hO, hO.z⟩
  refine ⟨⟨⟨v', on_set hO8 hl8 h3⟩, ?_, h3⟩, (KeepT.turns hO.d ht).trans KeepT.set⟩
  rw [heap_store _ _ _ _ _ _ hl8, hc]
/-- Append of the group that was made of puts. -/
theorem app_step [Spare] {w0 w1 w2 : World} {base b f cn ep n : Nat} {M : DM} {L : LS} {P : Nat → PutD} {v : Value} (h : LSt w0 base b f cn ep M L w1) (hn : n ≤ 1000) (hL : L.S.loose.length + n < 1000000) (hf : f ≤ 1048576) (hcn : cn ≤ 1048576) (hnx : L.nx ≤ cn) (he1 : 1 ≤ ep) (he2 : ep ≤ 1099511627776)
    (l : Below w1.heap.size w1 w2) (hg : GrpR w1.heap.size w2 (L.S.size - 45) P n v) :
    Calls Try.prog 17 #[.pointer (some ⟨b, 0, none⟩), v] w2 fun e w' => e = .returned (.int .i64 (appT f cn ep L n P).1) ∧ LSt w0 base b f cn ep M (appT f cn ep L n P).2 w' ∧ KeepT b w2 w' := by
  obtain ⟨⟨v0, hO⟩, h2, h3⟩ := h
  have hO2 := hO.below l
  have hb1 := (Array.getElem?_eq_some_iff.1 h2).1
  have hb2 := (l.block b hb1).trans h2
  have hS := hO.d.hS
  rcases Nat.eq_zero_or_pos n with h0 | h0
  · subst h0
    obtain ⟨ls, _, hown, _⟩ := hg
    obtain ⟨A, c, rfl⟩ := own_sl hown
    have e : appR cn L 0 P = if L.dead = true then 21 else 1 := by unfold appR refuseI; rw [if_pos rfl]
    have e0 : appR cn L 0 P ≠ 0 := by rw [e]; split <;> omega
    rw [appT_no e0, e]
    refine (append_empty b f cn ep L.nx L.dead A c w2 base { M with vl := v0 } L.S hO2.d hb2 hcn hnx).mono ?_
    rintro e' w' ⟨rfl, l'⟩
    exact ⟨rfl, LSt.below ⟨⟨v0, hO2⟩, hb2, h3⟩ l', KeepT.below l'⟩
  · obtain ⟨g, c, A, rfl, hG⟩ := grp_of hO (by omega) h0 hn hg
    obtain ⟨a1, a2, a3, a4⟩ := hO2.d.apartR hb2 (by decide) (by decide) (by decide)
    refine (append_any b f cn ep L.nx L.dead g 0 n c (pX (L.S.size - 45) P A) w2 base { M with vl := v0 } L.S hO2.d hO2.le hL hb2 ⟨a1, a2, a3, a4⟩ hf hcn hnx he1 he2 hG).mono ?_
    intro e w' hap
    have eR : refuseI L.dead n (pX (L.S.size - 45) P A) ((L.S.size : Int) - 45) ((cn : Int) - L.nx) = appR cn L n P := rfl
    have eS : logSec L.S.size ep L.nx n (pX (L.S.size - 45) P A) = secL ep L n P := rfl
    unfold AppP at hap
    rw [eR, eS] at hap
    rcases hap with ⟨q0, rfl, l'⟩ | ⟨q0, w3, w8, I, l3, hw, he, hI⟩
    · rw [appT_no q0]
      exact ⟨rfl, LSt.below ⟨⟨v0, hO2⟩, hb2, h3⟩ l', KeepT.below l'⟩
    · have hb3 := (l3.block b (Array.getElem?_eq_some_iff.1 hb2).1).trans hb2
      have hO3 := hO2.below l3
      have hdead : L.dead = false := by
        cases hd : L.dead with
        | false => rfl
        | true => unfold appR refuseI at q0; rw [if_pos hd] at q0; omega
      rcases hw with ⟨k, hk, k1, k2, k3, kL⟩ | ⟨k1, k3, kL⟩
      · have hIk := ret_inj k3
        subst hIk
        rw [appT_at q0 hk k1 k2]
        rcases hI with ⟨h, _⟩ | ⟨_, rfl⟩
        · exact absurd h k2
        · obtain ⟨r1, r2⟩ := LSt.wrote (w := w2) (i := 5) (x := .bool true) (nx' := L.nx) (dead' := true) hO3 hb3 h3 kL (by simp [lgCells])
          exact ⟨he, r1, (KeepT.below l3).trans r2⟩
      · have hIk := ret_inj k3
        subst hIk
        rw [appT_all q0 k1]
        rcases hI with ⟨h, rfl⟩ | ⟨h, rfl⟩
        · obtain ⟨r1, r2⟩ := LSt.wrote (w := w2) (i := 4) (x := .int .i64 ((L.nx : Int) + n)) (nx' := L.nx + n) (dead' := false) hO3 hb3 h3 kL (by simp [lgCells, hdead])
          rw [if_pos h, h]
          rw [h] at he
          exact ⟨he, r1, (KeepT.below l3).trans r2⟩
        · obtain ⟨r1, r2⟩ := LSt.wrote (w := w2) (i := 5) (x := .bool true) (nx' := L.nx) (dead' := true) hO3 hb3 h3 kL (by simp [lgCells])
          rw [if_neg h, decide_eq_true h]
          exact ⟨he, r1, (KeepT.below l3).trans r2⟩
end Go.Proofs.Ytdbfmllcapikkaa
/- A log over a disk: what Arm, Crash, Start, Dead, Left, Read do to it. -/
namespace Go.Proofs.Ytdbfmllcapikkaa
open Go.RowKit
set_option linter.unusedVariables false
set_option linter.unusedSimpArgs false

theorem LSt.disk [Spare] {w0 w w' : World} {base b f cn ep : Nat} {M : DM} {L : LS} {v v' : Value} {S' : DS} (hO : On w0 base { M with vl := v } L.S w) (h2 : w.heap[b]? = some (.cells (lgCells M.p f cn ep L.nx L.dead) 85 (0, 0))) (h3 : base ≤ b)
    (d : Dsk w' base { M with vl := v' } S') (t : Turns base { M with vl := v } w w') : LSt w0 base b f cn ep M ⟨S', L.nx, L.dead⟩ w' ∧ KeepT b w w' := by
  obtain ⟨a1, a2, a3, a4⟩ := hO.d.apartR h2 (by decide) (by decide) (by decide)
  exact ⟨⟨⟨v', d, t.on hO, hO.z⟩, (t.block b (Array.getElem?_eq_some_iff.1 h2).1 a1 a2 a3 a4).trans h2, h3⟩, KeepT.turns hO.d t⟩
theorem lst_arm [Spare] {w0 w : World} {base b f cn ep : Nat} {M : DM} {L : LS} (n : Int) (h : LSt w0 base b f cn ep M L w) (hn : n ≤ 9223372036854775807) :
    Calls Try.prog 32 #[.pointer (some ⟨M.p, 0, none⟩), .int .i64 n] w fun e w' => e = .returned (.tuple #[]) ∧ LSt w0 base b f cn ep M ⟨armS L.S n, L.nx, L.dead⟩ w' ∧ KeepT b w w' := by
  obtain ⟨⟨v, hO⟩, h2, h3⟩ := h
  refine (arm_any n w base { M with vl := v } L.S hO.d hn).mono ?_
  rintro e w' ⟨rfl, d, t, _⟩
  exact ⟨rfl, LSt.disk hO h2 h3 d t⟩
theorem lst_crash [Spare] {w0 w : World} {base b f cn ep n c : Nat} {M : DM} {L : LS} {A : Option Addr} {fa : Nat → Int} (h : LSt w0 base b f cn ep M L w) (hI : Ints w0 A n fa) (hb : w0.heap.size ≤ base) :
    Calls Try.prog 33 #[.pointer (some ⟨M.p, 0, none⟩), .slice A n c] w fun e w' => e = .returned (.tuple #[]) ∧ LSt w0 base b f cn ep M ⟨crashS L.S fa n, L.nx, L.dead⟩ w' ∧ KeepT b w w' := by
  obtain ⟨⟨v, hO⟩, h2, h3⟩ := h
  refine (crash_any A n c fa w base { M with vl := v } L.S hO.d hO.le (hI.below hO.b hb) (hI.apart hb hO.d)).mono ?_
  rintro e w' ⟨rfl, d, t, _⟩
  exact ⟨rfl, LSt.disk hO h2 h3 d t⟩
theorem lst_dead [Spare] {w0 w : World} {base b f cn ep : Nat} {M : DM} {L : LS} (h : LSt w0 base b f cn ep M L w) :
    Calls Try.prog 21 #[.pointer (some ⟨b, 0, none⟩)] w fun e w' => e = .returned (.bool L.dead) ∧ w = w' := dead_any b M.p f cn ep L.nx L.dead w h.2.1
theorem lst_left [Spare] {w0 w : World} {base b f cn ep : Nat} {M : DM} {L : LS} (h : LSt w0 base b f cn ep M L w) (hcn : cn ≤ 1048576) (hnx : L.nx ≤ cn) :
    Calls Try.prog 20 #[.pointer (some ⟨b, 0, none⟩)] w fun e w' => e = .returned (.int .i64 ((cn : Int) - L.nx)) ∧ Below w.heap.size w w' := left_any b M.p f cn ep L.nx L.dead w h.2.1 (by omega) (by omega) (by omega) (by omega)
/-- Start of a log on a disk that is there. -/
theorem lst_start [Spare] {w0 w : World} {base f cn ep : Nat} {M : DM} {S : DS} (h : On w0 base M S w) (hf : f ≤ 1048576) (hc1 : 1 ≤ cn) (hc2 : cn ≤ 1048576) (hp : f + cn ≤ S.N) (he1 : 1 ≤ ep) (he2 : ep ≤ 1099511627776) :
    Calls Try.prog 11 #[.pointer (some ⟨M.p, 0, none⟩), .int .i64 f, .int .i64 cn, .int .i64 ep] w fun e w' => ∃ b, e = .returned (.tuple #[.pointer (some ⟨b, 0, none⟩), .int .i64 0]) ∧ LSt w0 base b f cn ep M ⟨S, 0, false⟩ w' ∧ Below w.heap.size w w' ∧ w.heap.size ≤ b := by
  refine (start_any f cn ep w base M S h.d (by omega) (by omega) (by omega)).mono ?_
  rintro e w' ⟨⟨_, _, b, hb, rfl, hl⟩ | ⟨h0, _⟩, l⟩
  · exact ⟨b, rfl, ⟨⟨M.vl, h.below l⟩, hl, Nat.le_trans h.le hb⟩, l, hb⟩
  · exact absurd ⟨⟨by omega, by omega, by omega, by omega⟩, by omega, by omega⟩ h0
theorem lst_read [Spare] {w0 w : World} {base b f cn ep : Nat} {M : DM} {L : LS} (f' cn' ep' : Nat) (h : LSt w0 base b f cn ep M L w) (hup : L.S.down = false) (hc1 : 1 ≤ cn') (hc2 : cn' ≤ 1048576) (hp : f' + cn' ≤ L.S.N) (he1 : 1 ≤ ep') (he2 : ep' ≤ 1099511627776) :
    Calls Try.prog 13 #[.pointer (some ⟨M.p, 0, none⟩), .int .i64 f', .int .i64 cn', .int .i64 ep'] w (ReadP L.S f' cn' ep' w) := by
  obtain ⟨⟨v, hO⟩, h2, h3⟩ := h
  exact read_at base f' cn' ep' { M with vl := v } L.S w hO.d hup ⟨by omega, by omega, by omega, by omega⟩ (decide_eq_true ⟨by omega, by omega⟩)

/-! A disk that is up, and that nothing lets go down. -/
structure Up (S : DS) : Prop where
  d : S.down = false
  a : S.armed = 0
theorem Up.strike {S : DS} (h : Up S) : strikeS S = S := if_pos h.a
theorem Up.strikeI {S : DS} (h : Up S) : strikeI S = 0 := if_neg (by rw [h.a]; decide)
theorem Up.keep {S : DS} (h : Up S) (k : Nat) (F : Nat → Nat) : Up (keepS S k F) := ⟨h.d, h.a⟩
theorem Up.put {S : DS} (h : Up S) (a : Int) (n : Nat) (F : Nat → Nat) : Up (putS S a n F) := by
  unfold putS
  split
  · exact h
  · rw [(h.keep _ _).strike]; exact h.keep _ _
theorem Up.putI {S : DS} (h : Up S) {a : Nat} (ha : a < S.N) (F : Nat → Nat) : putI S a S.size F = 0 := by
  have e : reachI S (a : Int) = 0 := by
    unfold reachI
    rw [if_neg (by rw [h.d]; decide), if_neg (by omega)]
  unfold Go.Proofs.Ytdbfmllcapikkaa.putI
  rw [if_neg (fun q => q e), if_neg (fun q => q rfl)]
  exact (h.keep _ _).strikeI
theorem Up.putS {S : DS} (h : Up S) {a : Nat} (ha : a < S.N) (F : Nat → Nat) : putS S a S.size F = keepS S a F := by
  have e : reachI S (a : Int) = 0 := by
    unfold reachI
    rw [if_neg (by rw [h.d]; decide), if_neg (by omega)]
  unfold Go.Proofs.Ytdbfmllcapikkaa.putS
  rw [if_neg (fun q => q.elim (fun z => z e) fun z => z rfl), (h.keep _ _).strike]
  rfl
theorem Up.wr {S : DS} (h : Up S) (a sz : Nat) (sec : Nat → Nat → Nat) : ∀ k, Up (wrS a sz sec S k)
  | 0 => h
  | k + 1 => (Up.wr h a sz sec k).put _ _ _
theorem wrS_N (a sz : Nat) (sec : Nat → Nat → Nat) (S : DS) : ∀ k, (wrS a sz sec S k).N = S.N
  | 0 => rfl
  | k + 1 => by
    have := wrS_N a sz sec S k
    show (putS _ _ _ _).N = _
    unfold putS
    split
    · exact this
    · rw [strikeS_N]; exact this
theorem Up.wrI {S : DS} (h : Up S) (a : Nat) (sec : Nat → Nat → Nat) (k : Nat) (hk : a + k < S.N) : wrI a S.size sec S k = 0 := by
  unfold Go.Proofs.Ytdbfmllcapikkaa.wrI
  have q := wrS_sz a S.size sec S k
  have := (h.wr a S.size sec k).putI (a := a + k) (by rw [wrS_N]; exact hk) (sec k)
  rw [q] at this
  exact this
theorem Up.flushI {S : DS} (h : Up S) : flushI S = 0 := by unfold Go.Proofs.Ytdbfmllcapikkaa.flushI; rw [if_neg (by rw [h.d]; decide)]; exact h.strikeI
theorem Up.flush {S : DS} (h : Up S) : flushD S = { S with fast := fastTo S.fast S.loose, loose := [] } := by
  unfold flushD flushS
  rw [if_neg (by rw [h.d]; decide), h.strike, if_neg (by rw [h.strikeI]; decide)]
theorem Up.flushD {S : DS} (h : Up S) : Up (flushD S) := by rw [h.flush]; exact ⟨h.d, h.a⟩
theorem appR_zero {cn n : Nat} {L : LS} {P : Nat → PutD} (h : appR cn L n P = 0) (h45 : 45 ≤ L.S.size) : L.dead = false ∧ 1 ≤ n ∧ (∀ i, i < n → 0 ≤ (P i).page ∧ (P i).page ≤ 2147483647) ∧ (∀ i, i < n → putN (L.S.size - 45) (P i) = L.S.size - 45) ∧ L.nx + n ≤ cn := by
  obtain ⟨z1, z2, z3, z4, z5⟩ := refuse_zero h
  refine ⟨z1, z2, z3, fun i hi => ?_, by omega⟩
  have := z4 i hi
  show putN (L.S.size - 45) (P i) = _
  have e : ((putN (L.S.size - 45) (P i) : Nat) : Int) = (L.S.size : Int) - 45 := this
  omega
/-- Append on a disk that is up. -/
theorem appT_up {f cn ep n : Nat} {L : LS} {P : Nat → PutD} (h : Up L.S) (h45 : 45 ≤ L.S.size) (hN : f + cn ≤ L.S.N) (h0 : appR cn L n P = 0) :
    appT f cn ep L n P = (0, ⟨flushD (wrS (f + L.nx) L.S.size (secL ep L n P) L.S n), L.nx + n, false⟩) := by
  obtain ⟨z1, z2, z3, z4, z5⟩ := appR_zero h0 h45
  rw [appT_all h0 fun j hj => h.wrI _ _ _ (by omega), (h.wr _ _ _ _).flushI, if_pos rfl]
  rfl
theorem appT_keepsUp {f cn ep n : Nat} {L : LS} {P : Nat → PutD} (h : Up L.S) (h45 : 45 ≤ L.S.size) (hN : f + cn ≤ L.S.N) : Up (appT f cn ep L n P).2.S ∧ (appT f cn ep L n P).2.S.N = L.S.N ∧ (appT f cn ep L n P).2.S.size = L.S.size ∧ (L.nx ≤ cn → (appT f cn ep L n P).2.nx ≤ cn) ∧ (L.S.loose = [] → (appT f cn ep L n P).2.S.loose = []) := by
  by_cases h0 : appR cn L n P = 0
  · obtain ⟨z1, z2, z3, z4, z5⟩ := appR_zero h0 h45
    rw [appT_up h h45 hN h0]
    refine ⟨(h.wr _ _ _ _).flushD, ?_, ?_, fun _ => z5, fun _ => ?_⟩
    · show (flushD _).N = _
      rw [(h.wr _ _ _ _).flush]; exact wrS_N _ _ _ _ _
    · show (flushD _).size = _
      rw [(h.wr _ _ _ _).flush]; exact wrS_sz _ _ _ _ _
    · show (flushD _).loose = _
      rw [(h.wr _ _ _ _).flush]
  · rw [appT_no h0]; exact ⟨h, rfl, rfl, fun q => q, fun q => q⟩
end Go.Proofs.Ytdbfmllcapikkaa
/- Acts in memory; light. -/
namespace Go.Proofs.Ytdbfmllcapikkaa
open Go.RowKit
set_option linter.unusedVariables false

/-- An act in memory. -/
structure ActAt (w : World) (b o : Nat) (x : ActD) : Prop where
  c0 : w.cell? ⟨b, o, none⟩ = some (.int .i64 x.kind)
  c1 : w.cell? ⟨b, o + 1, none⟩ = some (.int .i64 x.at_)
  c2 : w.cell? ⟨b, o + 2, none⟩ = some (.int .i64 x.len)
  c3 : w.cell? ⟨b, o + 3, none⟩ = some (.int .u8 (x.b : Int))
  c4 : w.cell? ⟨b, o + 4, none⟩ = some (.slice x.fA x.fL x.fC)
theorem ActAt.keep {w w' : World} {b o : Nat} {x : ActD} (h : ActAt w b o x) (e : w'.heap[b]? = w.heap[b]?) : ActAt w' b o x :=
  have k : ∀ i, w'.cell? ⟨b, i, none⟩ = w.cell? ⟨b, i, none⟩ := fun i => World.cell?_of_block (w := w) (a := ⟨b, i, none⟩) e
  ⟨(k _).trans h.c0, (k _).trans h.c1, (k _).trans h.c2, (k _).trans h.c3, (k _).trans h.c4⟩
/-- A slice of acts that can be read. -/
def Acts (w : World) (A : Option Addr) (n : Nat) (X : Nat → ActD) : Prop :=
  n ≤ 9223372036854775807 ∧ (∀ i, i < n → (X i).ok w) ∧ (0 < n → ∃ b o, A = some ⟨b, o, none⟩ ∧ ∀ i, i < n → ActAt w b (o + i * 5) (X i))
def lightB (n : Nat) (X : Nat → ActD) : Bool := decide (n ≤ 40 ∧ ∀ i, i < n → (X i).fL ≤ 60)

end Go.Proofs.Ytdbfmllcapikkaa
/- Plain facts on a disk's state. -/
namespace Go.Proofs.Ytdbfmllcapikkaa
set_option linter.unusedVariables false

theorem nowTo_out (f : Nat → Nat → Nat) (j : Nat) : ∀ (l : List (Nat × (Nat → Nat))) (now : Nat → Nat → Nat), (∀ x ∈ l, x.1 ≠ j) → nowTo f now l j = now j
  | [], _, _ => rfl
  | x :: r, now, h => by
    show nowTo f (upd now x.1 (f x.1)) r j = now j
    rw [nowTo_out f j r _ fun y hy => h y (List.mem_cons_of_mem _ hy)]
    unfold upd
    rw [if_neg (fun e => h x (List.mem_cons_self ..) e.symm)]
theorem nowTo_keeps (f : Nat → Nat → Nat) (j : Nat) : ∀ (l : List (Nat × (Nat → Nat))) (now : Nat → Nat → Nat), now j = f j → nowTo f now l j = f j
  | [], _, h => h
  | x :: r, now, h => by
    refine nowTo_keeps f j r (upd now x.1 (f x.1)) ?_
    unfold upd
    by_cases e : j = x.1
    · rw [if_pos e, e]
    · rw [if_neg e, h]
theorem nowTo_in (f : Nat → Nat → Nat) (j : Nat) : ∀ (l : List (Nat × (Nat → Nat))) (now : Nat → Nat → Nat), (∃ x ∈ l, x.1 = j) → nowTo f now l j = f j
  | [], _, h => by obtain ⟨_, h, _⟩ := h; cases h
  | x :: r, now, h => by
    show nowTo f (upd now x.1 (f x.1)) r j = f j
    by_cases e : x.1 = j
    · refine nowTo_keeps f j r _ ?_
      unfold upd
      rw [if_pos e.symm, e]
    · refine nowTo_in f j r _ ?_
      obtain ⟨y, hy, hj⟩ := h
      rcases List.mem_cons.1 hy with rfl | hy
      · exact absurd hj e
      · exact ⟨y, hy, hj⟩
theorem fastTo_out (j : Nat) : ∀ (l : List (Nat × (Nat → Nat))) (f : Nat → Nat → Nat), (∀ x ∈ l, x.1 ≠ j) → fastTo f l j = f j
  | [], _, _ => rfl
  | x :: r, f, h => by
    show fastTo (upd f x.1 x.2) r j = f j
    rw [fastTo_out j r _ fun y hy => h y (List.mem_cons_of_mem _ hy)]
    unfold upd
    rw [if_neg (fun e => h x (List.mem_cons_self ..) e.symm)]
theorem fastTo_snoc (f : Nat → Nat → Nat) (l : List (Nat × (Nat → Nat))) (x : Nat × (Nat → Nat)) : fastTo f (l ++ [x]) = upd (fastTo f l) x.1 x.2 := by
  unfold fastTo
  rw [List.foldl_append]
  rfl
theorem crashTo_out (S : DS) (fa : Nat → Int) (L j : Nat) (h : ∀ x ∈ S.loose, x.1 ≠ j) : ∀ k, (crashTo S fa L k).1 j = S.fast j
  | 0 => rfl
  | k + 1 => by
    have ih := crashTo_out S fa L j h k
    simp only [crashTo]
    split
    · exact ih
    · rename_i x hx
      have hm : x.1 ≠ j := h x (List.mem_of_getElem? hx)
      have hu : ∀ G : Nat → Nat, upd (crashTo S fa L k).1 x.1 G j = (crashTo S fa L k).1 j := fun G => by
        unfold upd
        rw [if_neg (fun e => hm e.symm)]
      split
      · exact (hu _).trans ih
      · split
        · exact (hu _).trans ih
        · exact ih

section
variable (S : DS) (x : ActD)
theorem flushD_N : (flushD S).N = S.N := by unfold flushD flushS; split <;> (try split) <;> simp [strikeS_N]
theorem flushD_size : (flushD S).size = S.size := by unfold flushD flushS; split <;> (try split) <;> simp [strikeS_size]
theorem putS_N (a : Int) (n : Nat) (F : Nat → Nat) : (putS S a n F).N = S.N := by unfold putS; split <;> simp [strikeS_N, keepS]
theorem putS_size (a : Int) (n : Nat) (F : Nat → Nat) : (putS S a n F).size = S.size := by unfold putS; split <;> simp [strikeS_size, keepS]
theorem didS_N : (didS S x).N = S.N := by
  unfold didS
  split
  · exact flushD_N S
  · split
    · rfl
    · split
      · rfl
      · split
        · rfl
        · exact putS_N ..
theorem didS_size : (didS S x).size = S.size := by
  unfold didS
  split
  · exact flushD_size S
  · split
    · rfl
    · split
      · rfl
      · split
        · rfl
        · exact putS_size ..
theorem didS_len : (didS S x).loose.length ≤ S.loose.length + 1 := by
  unfold didS
  split
  · unfold flushD flushS; split
    · omega
    · split
      · rw [strikeS_loose]; omega
      · simp
  · split
    · omega
    · split
      · simp [armS]
      · split
        · simp [crashS]
        · unfold putS; split
          · omega
          · rw [strikeS_loose]; simp [keepS]
end

/-- What is read is what was written last, loose or fast. -/
def NowInv (S : DS) : Prop := ∀ j, S.now j = fastTo S.fast S.loose j
theorem NowInv.strike {S : DS} (h : NowInv S) : NowInv (strikeS S) := fun j => by rw [strikeS_now, strikeS_fast, strikeS_loose]; exact h j
theorem NowInv.keep {S : DS} (h : NowInv S) (k : Nat) (F : Nat → Nat) : NowInv (keepS S k F) := fun j => by
  show upd S.now k F j = fastTo S.fast (S.loose ++ [(k, F)]) j
  rw [fastTo_snoc]
  unfold upd
  by_cases e : j = k
  · rw [if_pos e, if_pos e]
  · rw [if_neg e, if_neg e]; exact h j
theorem NowInv.flush {S : DS} (h : NowInv S) : NowInv (flushS S) := fun j => by
  show (strikeS S).now j = fastTo (fastTo S.fast S.loose) [] j
  rw [strikeS_now]
  exact h j
theorem NowInv.crash {S : DS} (h : NowInv S) (fa : Nat → Int) (L : Nat) : NowInv (crashS S fa L) := fun j => by
  show nowTo (crashTo S fa L S.loose.length).1 S.now S.loose j = (crashTo S fa L S.loose.length).1 j
  by_cases e : ∃ x ∈ S.loose, x.1 = j
  · exact nowTo_in _ j _ _ e
  · have e2 : ∀ x ∈ S.loose, x.1 ≠ j := fun x hx q => e ⟨x, hx, q⟩
    rw [nowTo_out _ j _ _ e2, crashTo_out S fa L j e2, h j, fastTo_out j _ _ e2]
theorem NowInv.did {S : DS} (h : NowInv S) (x : ActD) : NowInv (didS S x) := by
  unfold didS
  split
  · unfold flushD; split
    · exact h
    · split
      · exact h.strike
      · exact h.flush
  · split
    · exact h
    · split
      · exact h
      · split
        · exact h.crash _ _
        · unfold putS; split
          · exact h
          · exact (h.keep _ _).strike
theorem NowInv.new (N size : Nat) : NowInv (newS N size) := fun _ => rfl

/-- Sector k holds F, fast, and nothing loose is for it. -/
structure Fast (k : Nat) (F : Nat → Nat) (S : DS) : Prop where
  l : ∀ x ∈ S.loose, x.1 ≠ k
  f : S.fast k = F
  n : S.now k = F
section
variable {k : Nat} {F : Nat → Nat} {S : DS}
theorem Fast.strike (h : Fast k F S) : Fast k F (strikeS S) := ⟨by rw [strikeS_loose]; exact h.l, by rw [strikeS_fast]; exact h.f, by rw [strikeS_now]; exact h.n⟩
theorem Fast.keep (h : Fast k F S) (j : Nat) (G : Nat → Nat) (hj : j ≠ k) : Fast k F (keepS S j G) := by
  refine ⟨fun x hx => ?_, h.f, ?_⟩
  · rcases List.mem_append.1 (show x ∈ S.loose ++ [(j, G)] from hx) with q | q
    · exact h.l x q
    · rw [List.mem_singleton.1 q]; exact hj
  · show upd S.now j G k = F
    unfold upd
    rw [if_neg (fun e => hj e.symm)]
    exact h.n
theorem Fast.flush (h : Fast k F S) : Fast k F (flushS S) := by
  refine ⟨fun x hx => ?_, ?_, ?_⟩
  · cases hx
  · show fastTo S.fast S.loose k = F
    rw [fastTo_out k _ _ h.l]; exact h.f
  · show (strikeS S).now k = F
    rw [strikeS_now]; exact h.n
theorem Fast.crash (h : Fast k F S) (fa : Nat → Int) (L : Nat) : Fast k F (crashS S fa L) := by
  refine ⟨fun x hx => ?_, ?_, ?_⟩
  · cases hx
  · exact (crashTo_out S fa L k h.l _).trans h.f
  · exact (nowTo_out _ k _ _ h.l).trans h.n
theorem Fast.did (h : Fast k F S) (x : ActD) (hx : x.at_ ≠ k) : Fast k F (didS S x) := by
  unfold didS
  split
  · unfold flushD; split
    · exact h
    · split
      · exact h.strike
      · exact h.flush
  · split
    · exact h
    · split
      · exact ⟨h.l, h.f, h.n⟩
      · split
        · exact h.crash _ _
        · unfold putS; split
          · exact h
          · rename_i q
            have r0 : reachI S x.at_ = 0 := by
              by_cases e : reachI S x.at_ = 0
              · exact e
              · exact absurd (.inl e) q
            have := reach_in r0
            exact (h.keep _ _ (by omega)).strike
theorem Fast.of_flush (h : NowInv S) (k : Nat) : Fast k (S.now k) (flushS S) := ⟨fun x hx => (by cases hx), (h k).symm, (by show (strikeS S).now k = _; rw [strikeS_now])⟩
end

/-- Acts, one behind the other; all but those at one place. -/
def runS (S0 : DS) (X : Nat → ActD) : Nat → DS
  | 0 => S0
  | k + 1 => didS (runS S0 X k) (X k)
def runF (S0 : DS) (X : Nat → ActD) (at_ : Nat) : Nat → DS
  | 0 => S0
  | k + 1 => if (X k).at_ = at_ then runF S0 X at_ k else didS (runF S0 X at_ k) (X k)
theorem runS_N (S0 : DS) (X : Nat → ActD) : ∀ k, (runS S0 X k).N = S0.N ∧ (runS S0 X k).size = S0.size ∧ (runS S0 X k).loose.length ≤ S0.loose.length + k
  | 0 => ⟨rfl, rfl, Nat.le_refl _⟩
  | k + 1 => by
    obtain ⟨h1, h2, h3⟩ := runS_N S0 X k
    have := didS_len (runS S0 X k) (X k)
    exact ⟨(didS_N _ _).trans h1, (didS_size _ _).trans h2, by show (didS _ _).loose.length ≤ _; omega⟩
theorem runF_N (S0 : DS) (X : Nat → ActD) (a : Nat) : ∀ k, (runF S0 X a k).N = S0.N ∧ (runF S0 X a k).size = S0.size ∧ (runF S0 X a k).loose.length ≤ S0.loose.length + k
  | 0 => ⟨rfl, rfl, Nat.le_refl _⟩
  | k + 1 => by
    obtain ⟨h1, h2, h3⟩ := runF_N S0 X a k
    have := didS_len (runF S0 X a k) (X k)
    unfold runF
    split
    · exact ⟨h1, h2, by omega⟩
    · exact ⟨(didS_N _ _).trans h1, (didS_size _ _).trans h2, by omega⟩
theorem runS_inv {S0 : DS} (h : NowInv S0) (X : Nat → ActD) : ∀ k, NowInv (runS S0 X k)
  | 0 => h
  | k + 1 => (runS_inv h X k).did _
theorem runF_fast {S0 : DS} {a : Nat} {F : Nat → Nat} (h : Fast a F S0) (X : Nat → ActD) : ∀ k, Fast a F (runF S0 X a k)
  | 0 => h
  | k + 1 => by
    have ih := runF_fast h X k
    unfold runF
    split
    · exact ih
    · rename_i q
      exact ih.did _ q
end Go.Proofs.Ytdbfmllcapikkaa
/- LogDead: the walk of its law. -/
namespace Go.Proofs.Ytdbfmllcapikkaa
open Go.RowKit
set_option linter.unusedVariables false
set_option linter.unusedSimpArgs false

/-- The log of LogDead as long as nothing was written; and when its disk went down. -/
def ldA : LS := ⟨armS (newS 12 64) 1, 0, false⟩
def ldB (F : Nat → Nat) : LS := ⟨strikeS (keepS (armS (newS 12 64) 1) 0 F), 0, true⟩
def LdOk (L : LS) : Prop := L = ldA ∨ ∃ F, L = ldB F
theorem refuse_or (dead : Bool) (n : Nat) (X : Nat → ChD) (room left : Int) : refuseI dead n X room left = 21 ∨ refuseI dead n X room left = 1 ∨ refuseI dead n X room left = 3 ∨ refuseI dead n X room left = 6 ∨ refuseI dead n X room left = 0 := by
  unfold refuseI
  split
  · exact .inl rfl
  split
  · exact .inr (.inl rfl)
  split
  · exact .inr (.inl rfl)
  split
  · exact .inr (.inr (.inl rfl))
  split
  · exact .inr (.inr (.inr (.inl rfl)))
  · exact .inr (.inr (.inr (.inr rfl)))
theorem ld_dead {f cn ep n : Nat} {L : LS} {P : Nat → PutD} (h : L.dead = true) : appT f cn ep L n P = (21, L) := by
  have e : appR cn L n P = 21 := if_pos h
  rw [appT_no (by rw [e]; decide), e]
theorem ld_step (n : Nat) (P : Nat → PutD) : (∃ r, (r == (4 : Int)) = false ∧ appT 0 12 1 ldA n P = (r, ldA)) ∨ ∃ F, appT 0 12 1 ldA n P = (4, ldB F) := by
  by_cases h0 : appR 12 ldA n P = 0
  · obtain ⟨z1, z2, z3, z4, z5⟩ := appR_zero h0 (by decide)
    refine .inr ⟨secL 1 ldA n P 0, ?_⟩
    have e : wrI (0 + ldA.nx) ldA.S.size (secL 1 ldA n P) ldA.S 0 = 4 := rfl
    rw [appT_at (k := 0) h0 (by omega) (fun j hj => absurd hj (by omega)) (by rw [e]; decide), e]
    rfl
  · refine .inl ⟨appR 12 ldA n P, ?_, appT_no h0⟩
    have := refuse_or ldA.dead n (pX0 (ldA.S.size - 45) P) ((ldA.S.size : Int) - 45) (((12 : Nat) : Int) - ldA.nx)
    unfold appR at h0 ⊢
    rcases this with h | h | h | h | h
    · rw [h]; rfl
    · rw [h]; rfl
    · rw [h]; rfl
    · rw [h]; rfl
    · exact absurd h h0
theorem LdOk.len {L : LS} (h : LdOk L) : L.S.loose.length ≤ 1 ∧ L.nx = 0 ∧ L.S.size = 64 := by
  rcases h with rfl | ⟨F, rfl⟩
  · exact ⟨by decide, rfl, rfl⟩
  · exact ⟨Nat.le_refl _, rfl, rfl⟩
theorem LdOk.next {L : LS} (h : LdOk L) (n : Nat) (P : Nat → PutD) : LdOk (appT 0 12 1 L n P).2 ∧ (L.dead = true → (appT 0 12 1 L n P).1 = 21) ∧ (L.dead || ((appT 0 12 1 L n P).1 == 4)) = (appT 0 12 1 L n P).2.dead := by
  rcases h with rfl | ⟨F, rfl⟩
  · rcases ld_step n P with ⟨r, hr, e⟩ | ⟨F, e⟩
    · rw [e]; exact ⟨.inl rfl, (fun q => by cases q), hr⟩
    · rw [e]; exact ⟨.inr ⟨F, rfl⟩, (fun q => by cases q), rfl⟩
  · rw [ld_dead rfl]; exact ⟨.inr ⟨F, rfl⟩, fun _ => rfl, rfl⟩
theorem ld_up (L : LS) (h : LdOk L) (fa : Nat → Int) : Up (crashS L.S fa 0) ∧ (crashS L.S fa 0).N = 12 ∧ (crashS L.S fa 0).size = 64 ∧ (crashS L.S fa 0).loose = [] := by
  rcases h with rfl | ⟨F, rfl⟩
  · exact ⟨⟨rfl, rfl⟩, rfl, rfl, rfl⟩
  · exact ⟨⟨rfl, rfl⟩, rfl, rfl, rfl⟩
/-- What the torn first sector is then: nothing of it was done. -/
theorem ld_zero (F : Nat → Nat) (fa : Nat → Int) : ¬ chAt (crashS (ldB F).S fa 0) 0 1 0 := by
  have e : (crashS (ldB F).S fa 0).now (0 + 0) = fun _ => 0 := by
    funext i
    show (nowTo (crashTo (ldB F).S fa 0 1).1 (ldB F).S.now [(0, F)]) (0 + 0) i = 0
    rw [nowTo_in _ _ _ _ ⟨_, List.mem_singleton.2 rfl, rfl⟩]
    show (upd (newS 12 64).fast 0 (copyF ((newS 12 64).fast 0) 0 (choiceN fa 0 0 65) F)) 0 i = 0
    unfold upd copyF choiceN
    rw [if_pos rfl, if_neg (fun q => by have := q.2; rw [if_neg (Nat.lt_irrefl 0)] at this; omega)]
    rfl
  unfold chAt
  rw [e]
  show ¬ isCh (fun _ => 0) 44 0 1
  decide +kernel
/-- A log that holds nothing: Read tells no group. -/
theorem read_none {S : DS} {first count epoch : Nat} {w w' : World} {e : Ending} (h : ReadP S first count epoch w e w') (h0 : ¬ chAt S first epoch 0) : ∃ A c, e = .returned (.tuple #[.slice A 0 c, .int .i64 0]) := by
  obtain ⟨⟨k, v, vs, X, hk, hch, hno, he, hown, hgr, hX⟩, hb⟩ := h
  have hk0 : k = 0 := by
    rcases Nat.eq_zero_or_pos k with h | h
    · exact h
    · exact absurd (hch 0 h) h0
  subst hk0
  obtain ⟨A, c, rfl⟩ := own_sl hown
  exact ⟨A, c, he⟩
theorem read_some {S : DS} {first count epoch : Nat} {w w' : World} {e : Ending} (h : ReadP S first count epoch w e w') : ∃ A k c, e = .returned (.tuple #[.slice A k c, .int .i64 0]) ∧ Below w.heap.size w w' := by
  obtain ⟨⟨k, v, vs, X, hk, hch, hno, he, hown, hgr, hX⟩, hb⟩ := h
  obtain ⟨A, c, rfl⟩ := own_sl hown
  exact ⟨A, _, c, he, hb⟩
set_option maxRecDepth 100000 in
set_option maxHeartbeats 8000000 in
theorem logDead_gen [Spare] (A : Option Addr) (n c : Nat) (G : Nat → SlD) (Q : Nat → Nat → PutD) (A2 : Option Addr) (n2 c2 : Nat) (P2 : Nat → PutD) (w : World) (hG : PutsG w A n G Q) (hP : Puts w A2 n2 P2) (hE : ∀ g, w.heap.size ≤ g → Spare.ok g) :
    Calls Try.prog 6 #[.slice A n c, .slice A2 n2 c2] w fun e w' => e = .returned (.bool true) ∧ Below w.heap.size w w' := by
  have hn := hG.1.1
  have hn2 := hP.1
  have HG := Lib.hid hG
  have HP := Lib.hid hP
  have KL := Lib.hid (light_any 0 0 0 0 A n c G w hG.1)
  clear hG hP
  by_cases hl : lightGB n G = true
  case neg =>
    have hl2 : lightGB n G = false := by simpa using hl
    rw [hl2] at KL
    go_enter Try.func6, Try.ntmps6
    go_wp2_with (go_at_call 9; refine KL.out.mono ?_; rintro e w1 ⟨rfl, l1⟩)
    go_ret
    exact ⟨rfl, l1⟩
  rw [hl] at KL
  have HL := Lib.hid (of_decide_eq_true hl)
  clear hl
  by_cases h8 : 8 < n2
  · have h8I : (8 : Int) < (n2 : Int) := by omega
    go_enter Try.func6, Try.ntmps6
    go_wp2_with (go_at_call 9; refine KL.out.mono ?_; rintro e w1 ⟨rfl, l1⟩)
    go_ret
    exact ⟨rfl, l1⟩
  have h8I : ¬ (8 : Int) < (n2 : Int) := by omega
  go_enter Try.func6, Try.ntmps6
  go_wp2_with fail
  refine KL.out.mono ?_
  rintro e w1 ⟨rfl, l1⟩
  have L1 := Lib.hid l1
  clear l1
  go_wp2_with fail
  refine (new_ok 12 64 w1 (by omega) (by omega) (fun g hg => hE g (Nat.le_trans L1.out.size hg))).mono ?_
  rintro e w2 ⟨M0, rfl, d2, l2⟩
  have O2 := Lib.hid (show On w1 w1.heap.size M0 (newS 12 64) w2 from ⟨d2, l2, Nat.le_refl _⟩)
  clear d2 l2
  go_wp2_with fail
  refine (lst_start (f := 0) (cn := 12) (ep := 1) O2.out (by omega) (by omega) (by omega) (by decide) (by omega) (by omega)).mono ?_
  rintro e w3 ⟨b, rfl, s3, l3, hb3⟩
  have S3 := Lib.hid s3
  clear s3 l3
  go_wp2_with fail
  refine (lst_arm 1 S3.out (by omega)).mono ?_
  rintro e w4 ⟨rfl, s4, k4⟩
  have S4 := Lib.hid (show LSt w1 w1.heap.size b 0 12 1 M0 ldA w4 from s4)
  clear s4 k4
  go_wp2
  go_loopw [8, 9] (fun dd i wr => ∃ (k : Nat) (L : LS), k ≤ n ∧ i = .int .i64 (k : Nat) ∧ dd = .bool L.dead ∧ LdOk L ∧ LSt w1 w1.heap.size b 0 12 1 M0 L wr) (fun dd i _ => n - (intOf i).toNat)
  case atStart => exact ⟨0, ldA, Nat.zero_le _, rfl, rfl, .inl rfl, S4.out⟩
  case round =>
    obtain ⟨k, L, hk, rfl, rfl, hok, hst⟩ := hrel
    obtain ⟨wo, hwo⟩ : ∃ wo, wo = wr := ⟨_, rfl⟩
    subst hwo
    have HOk := Lib.hid hok
    have HS := Lib.hid hst
    have HLen := Lib.hid hok.len
    obtain ⟨dd, hdd⟩ : ∃ dd, dd = L.dead := ⟨_, rfl⟩
    have HD := Lib.hid hdd
    rw [← hdd]
    clear hok hst hdd
    by_cases hlt : k < n
    · have HG1 := Lib.hid (HG.out.below (L1.out.trans (HS.out.from0.mono L1.out.size)))
      obtain ⟨bb, o, rfl, hc⟩ := HG1.out.1.2.2 (by omega)
      have ck := hc k hlt
      have hgn := HL.out.2 k hlt
      have hP := HG1.out.2 k hlt
      rcases hGk : G k with ⟨Ak, nk, dk⟩
      rw [hGk] at ck hgn hP
      dsimp only at ck hgn hP
      have HPk := Lib.hid hP
      clear hc hGk hP
      have hsz := HLen.out.2.2
      obtain ⟨r, hr⟩ : ∃ r, r = (appT 0 12 1 L nk (Q k)).1 := ⟨_, rfl⟩
      have HR := Lib.hid hr
      have HN := Lib.hid (HOk.out.next nk (Q k))
      have KA := Lib.hid (show ∀ (w2 : World) (v : Value), Below wo.heap.size wo w2 → GrpR wo.heap.size w2 19 (Q k) nk v → Calls Try.prog 17 #[.pointer (some ⟨b, 0, none⟩), v] w2 fun e w' => e = .returned (.int .i64 r) ∧ LSt w1 w1.heap.size b 0 12 1 M0 (appT 0 12 1 L nk (Q k)).2 w' ∧ KeepT b w2 w' from hr ▸ fun w2 v l hg => app_step (n := nk) (P := Q k) HS.out (by omega) (by have := HLen.out.1; omega) (by omega) (by omega) (by rw [HLen.out.2.1]; omega) (by omega) (by omega) l (by rw [hsz]; exact hg))
      have KG := Lib.hid (show Calls Try.prog 16 #[.slice Ak nk dk, .int .i64 19] wo fun e w' => (∃ v, e = .returned v ∧ GrpR wo.heap.size w' 19 (Q k) nk v) ∧ Below wo.heap.size wo w' from group_any Ak nk dk (Q k) 19 wo (by omega) (by omega) HPk.out)
      have HT := Lib.hid (show dd = true → (r != 21) = false from fun q => by rw [hr, HN.out.2.1 (by rw [← HD.out]; exact q)]; rfl)
      clear hr hsz
      cases dd
      case true =>
        have hq := HT.out rfl
        go_wp2_with (first
          | (go_at_call 16; refine KG.out.mono ?_; rintro e W5 ⟨⟨v5, rfl, g5⟩, l5⟩; have L5 := Lib.hid l5; have G5 := Lib.hid g5; clear l5 g5)
          | (go_at_call 17; refine (KA.out _ _ L5.out G5.out).mono ?_; rintro e W6 ⟨rfl, s6, k6⟩; have S6 := Lib.hid s6; clear s6 k6))
        go_roundw
        case rel => exact ⟨k + 1, _, by omega, by go_num, by rw [← HN.out.2.2, ← HD.out]; rfl, HN.out.1, S6.out⟩
        case measure => simp [intOf]; omega
      case false =>
        go_wp2_with (first
          | (go_at_call 16; refine KG.out.mono ?_; rintro e W5 ⟨⟨v5, rfl, g5⟩, l5⟩; have L5 := Lib.hid l5; have G5 := Lib.hid g5; clear l5 g5)
          | (go_at_call 17; refine (KA.out _ _ L5.out G5.out).mono ?_; rintro e W6 ⟨rfl, s6, k6⟩; have S6 := Lib.hid s6; clear s6 k6))
        go_roundw
        case rel => exact ⟨k + 1, _, by omega, by go_num, by rw [← HN.out.2.2, ← HD.out, ← HR.out]; rfl, HN.out.1, S6.out⟩
        case measure => simp [intOf]; omega
    · obtain rfl : k = n := by omega
      have KC := Lib.hid (lst_crash (A := none) (n := 0) (c := 0) (fa := fun _ => 0) HS.out ⟨by omega, fun i hi => absurd hi (by omega), fun h => absurd h (by omega)⟩ (Nat.le_refl _))
      obtain ⟨L5, hL5⟩ : ∃ L5 : LS, L5 = ⟨crashS L.S (fun _ => 0) 0, L.nx, L.dead⟩ := ⟨_, rfl⟩
      rw [← hL5] at KC
      have U5 : Up L5.S ∧ L5.S.N = 12 ∧ L5.S.size = 64 ∧ L5.S.loose = [] := by rw [hL5]; exact ld_up L HOk.out fun _ => 0
      have N5 : L5.nx = 0 ∧ L5.dead = dd := by rw [hL5, HD.out]; exact ⟨HLen.out.2.1, rfl⟩
      have Z5 : dd = true → ¬ chAt L5.S 0 1 0 := fun q => by
        rw [hL5]
        rcases HOk.out with h | ⟨F, h⟩
        · rw [HD.out, h] at q; cases q
        · rw [h]; exact ld_zero F _
      obtain ⟨r2, hr2⟩ : ∃ r, r = (appT 0 12 1 L5 n2 P2).1 := ⟨_, rfl⟩
      obtain ⟨L6, hL6⟩ : ∃ L, L = (appT 0 12 1 L5 n2 P2).2 := ⟨_, rfl⟩
      have U6 := appT_keepsUp (f := 0) (cn := 12) (ep := 1) (n := n2) (P := P2) U5.1 (by omega) (by omega)
      rw [← hL6] at U6
      have D6 : dd = true → (r2 == 21) = true ∧ L6 = L5 := fun q => by
        have := ld_dead (f := 0) (cn := 12) (ep := 1) (n := n2) (P := P2) (L := L5) (by rw [N5.2]; exact q)
        rw [hr2, hL6, this]
        exact ⟨rfl, rfl⟩
      have E6 : dd = true → L6.dead = true := fun q => by rw [(D6 q).2, N5.2]; exact q
      have Z6 : dd = true → ¬ chAt L6.S 0 1 0 := fun q => by rw [(D6 q).2]; exact Z5 q
      have KA := Lib.hid (show ∀ (w1' w2 : World) (v : Value), LSt w1 w1.heap.size b 0 12 1 M0 L5 w1' → Below w1'.heap.size w1' w2 → GrpR w1'.heap.size w2 19 P2 n2 v → Calls Try.prog 17 #[.pointer (some ⟨b, 0, none⟩), v] w2 fun e w' => e = .returned (.int .i64 r2) ∧ LSt w1 w1.heap.size b 0 12 1 M0 L6 w' ∧ KeepT b w2 w' from hr2 ▸ hL6 ▸ fun w1' w2 v s l hg => app_step s (by omega) (by rw [U5.2.2.2]; show 0 + n2 < 1000000; omega) (by omega) (by omega) (by rw [N5.1]; omega) (by omega) (by omega) l (by rw [U5.2.2.1]; exact hg))
      have HU := Lib.hid (And.intro U5 U6)
      have HD6 := Lib.hid (And.intro D6 (And.intro E6 Z6))
      clear U5 U6 D6 E6 Z6 Z5 N5 hL5 hr2 hL6
      have KG := Lib.hid (show ∀ W, Below wo.heap.size wo W ∨ Below w1.heap.size w1 W → Calls Try.prog 16 #[.slice A2 n2 c2, .int .i64 19] W fun e w' => (∃ v, e = .returned v ∧ GrpR W.heap.size w' 19 P2 n2 v) ∧ Below W.heap.size W w' from fun W l => group_any A2 n2 c2 P2 19 W (by omega) (by omega) (HP.out.below (L1.out.trans (Below.mono (show Below w1.heap.size w1 W from l.elim (fun l => HS.out.from0.trans (l.mono HS.out.from0.size)) fun l => l) L1.out.size))))
      cases dd
      case true =>
        obtain ⟨hq, _⟩ := HD6.out.1 rfl
        have hd6 := HD6.out.2.1 rfl
        have HZ := Lib.hid (HD6.out.2.2 rfl)
        go_wp2_with fail
        refine KC.out.mono ?_
        rintro e w5 ⟨rfl, s5, _⟩
        have S5 := Lib.hid s5
        clear s5
        go_wp2_with (first
          | (go_at_call 16; refine (KG.out _ (.inr S5.out.from0)).mono ?_; rintro e W5 ⟨⟨v5, rfl, g5⟩, l5⟩; have L5' := Lib.hid l5; have G5 := Lib.hid g5; clear l5 g5)
          | (go_at_call 17; refine (KA.out _ _ _ S5.out L5'.out G5.out).mono ?_; rintro e W6 ⟨rfl, s6, k6⟩; have S6 := Lib.hid s6; clear s6 k6)
          | (go_at_call 13; refine (lst_read 0 12 1 S6.out HU.out.2.1.d (by omega) (by omega) (by rw [HU.out.2.2.1, HU.out.1.2.1]; omega) (by omega) (by omega)).mono ?_; intro e W7 hr7; obtain ⟨A7, c7, rfl⟩ := read_none hr7 HZ.out; have S7 := Lib.hid (S6.out.below hr7.2); clear hr7)
          | (go_at_call 21; refine (lst_dead S7.out).mono ?_; rintro e W8 ⟨rfl, rfl⟩; rw [hd6])
          | (go_at_call 14; refine (lawake_any _).mono ?_; rintro e W9 ⟨rfl, l9⟩))
        go_ret
        exact ⟨rfl, L1.out.trans ((S7.out.from0.trans (l9.mono S7.out.from0.size)).mono L1.out.size)⟩
      case false =>
        obtain ⟨d6, hd6⟩ : ∃ d, d = L6.dead := ⟨_, rfl⟩
        have KD := Lib.hid (show ∀ W, LSt w1 w1.heap.size b 0 12 1 M0 L6 W → Calls Try.prog 21 #[.pointer (some ⟨b, 0, none⟩)] W fun e w' => e = .returned (.bool d6) ∧ W = w' from hd6 ▸ fun W s => lst_dead s)
        clear hd6
        cases d6
        all_goals
          go_wp2_with fail
          refine KC.out.mono ?_
          rintro e w5 ⟨rfl, s5, _⟩
          have S5 := Lib.hid s5
          clear s5
          go_wp2_with (first
            | (go_at_call 16; refine (KG.out _ (.inr S5.out.from0)).mono ?_; rintro e W5 ⟨⟨v5, rfl, g5⟩, l5⟩; have L5' := Lib.hid l5; have G5 := Lib.hid g5; clear l5 g5)
            | (go_at_call 17; refine (KA.out _ _ _ S5.out L5'.out G5.out).mono ?_; rintro e W6 ⟨rfl, s6, k6⟩; have S6 := Lib.hid s6; clear s6 k6)
            | (go_at_call 13; refine (lst_read 0 12 1 S6.out HU.out.2.1.d (by omega) (by omega) (by rw [HU.out.2.2.1, HU.out.1.2.1]; omega) (by omega) (by omega)).mono ?_; intro e W7 hr7; obtain ⟨A7, k7, c7, rfl, l7⟩ := read_some hr7; have S7 := Lib.hid (S6.out.below l7); clear hr7 l7)
            | (go_at_call 21; refine (KD.out _ S7.out).mono ?_; rintro e W8 ⟨rfl, rfl⟩)
            | (go_at_call 14; refine (lawake_any _).mono ?_; rintro e W9 ⟨rfl, l9⟩))
          go_ret
          exact ⟨rfl, L1.out.trans ((S7.out.from0.trans (l9.mono S7.out.from0.size)).mono L1.out.size)⟩
theorem logDead_walk (A : Option Addr) (n c : Nat) (G : Nat → SlD) (Q : Nat → Nat → PutD) (A2 : Option Addr) (n2 c2 : Nat) (P2 : Nat → PutD) (w : World) (hG : PutsG w A n G Q) (hP : Puts w A2 n2 P2) :
    Calls Try.prog 6 #[.slice A n c, .slice A2 n2 c2] w fun e w' => e = .returned (.bool true) ∧ Below w.heap.size w w' := @logDead_gen ⟨fun _ => True⟩ A n c G Q A2 n2 c2 P2 w hG hP fun _ _ => trivial
end Go.Proofs.Ytdbfmllcapikkaa
