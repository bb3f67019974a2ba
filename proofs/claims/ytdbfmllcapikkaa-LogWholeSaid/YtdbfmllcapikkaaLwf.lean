/- Merged texts: FTurned, FTornDefs, DLight, DState, LSecP, LMach, LCont, LKeepY, LAgP, LAgain, LWhP, LArgs2, LWhole. -/
import Derived.Test.YtdbfmllcapikkaaLwe
import Derived.Laws.AppendOwnNone
import Derived.Lib.SliceRun
/- The walk of FrameTurned. -/
namespace Go.Proofs.Ytdbfmllcapikkaa
open Go.RowKit

theorem place_of (x : Int) (s : Nat) (h1 : 0 < s) (h2 : s ≤ 1000000) : ∃ j : Nat, j < s ∧ wrap64 ((IntKind.u64.wrap x).tmod (s : Int)) = (j : Int) := by
  have h0 := wrap_u64_nonneg x
  rw [Int.tmod_eq_emod_of_nonneg h0]
  have h3 := Int.emod_nonneg (IntKind.u64.wrap x) (show (s : Int) ≠ 0 by omega)
  have h4 := Int.emod_lt_of_pos (IntKind.u64.wrap x) (show (0 : Int) < (s : Int) by omega)
  obtain ⟨j, hj⟩ := Int.eq_ofNat_of_zero_le h3
  refine ⟨j, by omega, ?_⟩
  rw [hj]
  exact IntWalk.wrap64_in _ ⟨by omega, by omega⟩

end Go.Proofs.Ytdbfmllcapikkaa
/- What stands there behind each piece, and what was written. -/
namespace Go.Proofs.Ytdbfmllcapikkaa
open Go.RowKit

theorem build_int (size m n c : Nat) (mark : Int) (A : Option Addr) (F : Nat → Nat) (w : World) (h1 : m + 20 ≤ size) (h2 : size ≤ m + 20) (h44 : 44 ≤ m) (hm : m ≤ 4076) (hk1 : 1 ≤ mark) (hk2 : mark ≤ 4611686018427387904) (hn : 16 + n ≤ m) (hb : Bytes w A n F) :
    Calls Try.prog 61 #[.int .i64 size, .int .i64 mark, .slice A n c] w fun e w' =>
      e = .returned (.tuple #[.slice (some ⟨w.heap.size, 0, none⟩) size size, .int .i64 0]) ∧ BRow w' w.heap.size size (secF m mark.toNat n F) ∧ Below w.heap.size w w' := by
  obtain ⟨k, rfl⟩ := Int.eq_ofNat_of_zero_le (show 0 ≤ mark by omega)
  exact build_ok size m k n c A F w h1 h2 h44 hm (by omega) (by omega) hn hb
theorem strinfo : (Try.prog.info? 9).map (fun i => (i.zero, i.size, i.bytes)) = some (some (.string ByteArray.empty), 1, 16) := by kernel_rfl

/-- What stands there, and what was written, behind k rounds. -/
def nowS (zero : Bool) (S : Nat → Nat → Nat) (cut : Nat → Nat) : Nat → Nat → Nat
  | 0 => zeroF
  | k + 1 => if k = 0 ∧ zero = true then zeroF else copyF (nowS zero S cut k) 0 (cut k) (S k)
def wholeS (zero : Bool) (S : Nat → Nat → Nat) (s : Nat) : Nat → List Value
  | 0 => []
  | k + 1 => if k = 0 ∧ zero = true then [] else wholeS zero S s k ++ [.string (strF (S k) s)]
theorem nowS_skip (zero : Bool) (S : Nat → Nat → Nat) (cut : Nat → Nat) (h : zero = true) : nowS zero S cut 1 = nowS zero S cut 0 := if_pos ⟨rfl, h⟩
theorem nowS_step {zero : Bool} {S : Nat → Nat → Nat} {cut : Nat → Nat} {k : Nat} (h : ¬ (k = 0 ∧ zero = true)) : nowS zero S cut (k + 1) = copyF (nowS zero S cut k) 0 (cut k) (S k) := if_neg h
theorem wholeS_skip (zero : Bool) (S : Nat → Nat → Nat) (s : Nat) (h : zero = true) : wholeS zero S s 1 = wholeS zero S s 0 := if_pos ⟨rfl, h⟩
theorem wholeS_step {zero : Bool} {S : Nat → Nat → Nat} {s k : Nat} (h : ¬ (k = 0 ∧ zero = true)) : wholeS zero S s (k + 1) = wholeS zero S s k ++ [.string (strF (S k) s)] := if_neg h

theorem wholeS_len (zero : Bool) (S : Nat → Nat → Nat) (s : Nat) : ∀ k, (wholeS zero S s k).length ≤ k
  | 0 => Nat.le_refl _
  | k + 1 => by
    have := wholeS_len zero S s k
    unfold wholeS
    split
    · simp
    · rw [List.length_append]; simp; omega

theorem wholeS_mem (zero : Bool) (S : Nat → Nat → Nat) (s : Nat) (v : Value) : ∀ k, v ∈ wholeS zero S s k ↔ ∃ r, r < k ∧ ¬ (r = 0 ∧ zero = true) ∧ v = .string (strF (S r) s)
  | 0 => by
    unfold wholeS
    constructor
    · intro h; cases h
    · rintro ⟨r, h, _⟩; omega
  | k + 1 => by
    have ih := wholeS_mem zero S s v k
    by_cases h : k = 0 ∧ zero = true
    · unfold wholeS
      rw [if_pos h]
      constructor
      · intro q; cases q
      · rintro ⟨r, h1, h2, _⟩
        exact absurd ⟨by omega, h.2⟩ h2
    · rw [wholeS_step h, List.mem_append, ih, List.mem_singleton]
      constructor
      · rintro (⟨r, h1, h2, h3⟩ | h3)
        · exact ⟨r, by omega, h2, h3⟩
        · exact ⟨k, by omega, h, h3⟩
      · rintro ⟨r, h1, h2, h3⟩
        rcases Nat.lt_or_ge r k with q | q
        · exact .inl ⟨r, q, h2, h3⟩
        · obtain rfl : r = k := by omega
          exact .inr h3

theorem headF_lt (v i : Nat) : headF v i < 256 := by
  have := leF_lt v i
  unfold headF
  split <;> omega
theorem secF_lt {m v n : Nat} {G : Nat → Nat} (hv : v < 18446744073709551616) (hG : ∀ j, j < n → G j < 256) (i : Nat) : secF m v n G i < 256 := by
  unfold secF
  rw [pairF_at hv]
  split
  · exact headF_lt _ _
  · unfold putF
    split
    · exact Nat.mod_lt _ (by omega)
    · unfold bodyF copyF
      split
      · exact hG _ (by omega)
      · rw [pairF_at hv]
        split
        · exact headF_lt _ _
        · unfold zeroF; omega

/-- What stands there at the end is a sector just where it is one of those that were written. -/
theorem torn_end {s m : Nat} {zero : Bool} {mk : Nat → Int} {nn : Nat → Nat} {F : Nat → Nat → Nat} {cut : Nat → Nat} (h1 : m + 20 ≤ s) (h2 : s ≤ m + 20) (hm : 44 ≤ m) (hc0 : cut 0 = s)
    (hv : ∀ j, j < 3 → ¬ (j = 0 ∧ zero = true) → 1 ≤ mk j ∧ mk j ≤ 4611686018427387904) (n01 : mk 0 ≠ mk 1) (n02 : mk 0 ≠ mk 2) (n12 : mk 1 ≠ mk 2)
    (hT : ∀ i, i < s → nowS zero (fun k => secF m (mk k).toNat (nn k) (F k)) cut 3 i < 256)
    (hS : ∀ r, r < 3 → ¬ (r = 0 ∧ zero = true) → ∀ i, i < s → secF m (mk r).toNat (nn r) (F r) i < 256) :
    okP (nowS zero (fun k => secF m (mk k).toNat (nn k) (F k)) cut 3) m ↔ ∃ r, r < 3 ∧ ¬ (r = 0 ∧ zero = true) ∧ ∀ i, i < s → nowS zero (fun k => secF m (mk k).toNat (nn k) (F k)) cut 3 i = secF m (mk r).toNat (nn r) (F r) i := by
  constructor
  · intro hok
    have e : nowS zero (fun k => secF m (mk k).toNat (nn k) (F k)) cut 3 = tornF (nowS zero (fun k => secF m (mk k).toNat (nn k) (F k)) cut 1) (secF m (mk 1).toNat (nn 1) (F 1)) (secF m (mk 2).toNat (nn 2) (F 2)) (cut 1) (cut 2) := by
      rw [nowS_step (by omega), nowS_step (by omega)]
      rfl
    rw [e] at hok hT ⊢
    have v1 := hv 1 (by omega) (by omega)
    have v2 := hv 2 (by omega) (by omega)
    have b0 : zero = false → ∀ i, i < s → nowS zero (fun k => secF m (mk k).toNat (nn k) (F k)) cut 1 i = secF m (mk 0).toNat (nn 0) (F 0) i := fun hz i hi => by
      rw [nowS_step (by rw [hz]; simp), copyF_in (by omega) (by rw [hc0]; omega), Nat.sub_zero]
    have m0 : zero = false → Marked (nowS zero (fun k => secF m (mk k).toNat (nn k) (F k)) cut 1) m (mk 0).toNat := fun hz => by
      have v0 := hv 0 (by omega) (by rw [hz]; simp)
      have := sec_marked (m := m) (v := (mk 0).toNat) (n := nn 0) (G := F 0) (by omega) (by omega)
      exact ⟨fun i hi => (b0 hz i (by omega)).trans (this.1 i hi), fun i hi => (b0 hz _ (by omega)).trans (this.2 i hi)⟩
    have z0 : zero = true → ∀ i, nowS zero (fun k => secF m (mk k).toNat (nn k) (F k)) cut 1 i = 0 := fun hz i => by
      rw [nowS_skip _ _ _ hz]
      rfl
    have w0 : zero = false → (mk 0).toNat ≤ 4611686018427387904 := fun hz => by
      have v0 := hv 0 (by omega) (by rw [hz]; simp)
      omega
    rcases torn_one (zero := zero) (M0 := if zero then 0 else (mk 0).toNat) hm (fun hz => by rw [if_neg (show ¬ zero = true by rw [hz]; simp)]; exact m0 hz) z0 (sec_marked (by omega) (by omega)) (sec_marked (by omega) (by omega))
      (by cases zero with
        | true => simp
        | false => exact w0 rfl) (by omega) (by omega)
      (fun hz => by have v0 := hv 0 (by omega) (by rw [hz]; simp); rw [hz]; simp; omega)
      (fun hz => by have v0 := hv 0 (by omega) (by rw [hz]; simp); rw [hz]; simp; omega) (by omega) (fun i hi => hT i (by omega)) hok with h | h | ⟨hz, h⟩
    · exact ⟨2, by omega, by omega, fun i hi => h i (by omega)⟩
    · exact ⟨1, by omega, by omega, fun i hi => h i (by omega)⟩
    · exact ⟨0, by omega, by rw [hz]; simp, fun i hi => (h i (by omega)).trans (b0 hz i hi)⟩
  · rintro ⟨r, hr, hz, h⟩
    have hvr := hv r hr hz
    exact okP_congr hm (fun i hi => (h i (by omega)).symm) (sec_ok hm (by omega) (by omega) fun i hi => hS r hr hz i (by omega))
end Go.Proofs.Ytdbfmllcapikkaa
/- Acts in memory; light. -/
namespace Go.Proofs.Ytdbfmllcapikkaa
open Go.RowKit
set_option linter.unusedVariables false

/-- An act in memory. -/
structure ActAt (w : World) (b o : Nat) (x : ActD) : Prop where
  c0 : w.cell? ⟨b, o, none⟩ = some (.int .i64 x.kind)
  c1 : w.cell? ⟨b, o + 1, none⟩ = some (.int .i64 x.at_)
  c2 : w.cell? ⟨b, o + 2, none⟩ = some (.int .i64 x.len)
  c3 : w.cell? ⟨b, o + 3, none⟩ = some (.int .u8 (x.b : Int))
  c4 : w.cell? ⟨b, o + 4, none⟩ = some (.slice x.fA x.fL x.fC)
theorem ActAt.keep {w w' : World} {b o : Nat} {x : ActD} (h : ActAt w b o x) (e : w'.heap[b]? = w.heap[b]?) : ActAt w' b o x :=
  have k : ∀ i, w'.cell? ⟨b, i, none⟩ = w.cell? ⟨b, i, none⟩ := fun i => World.cell?_of_block (w := w) (a := ⟨b, i, none⟩) e
  ⟨(k _).trans h.c0, (k _).trans h.c1, (k _).trans h.c2, (k _).trans h.c3, (k _).trans h.c4⟩
/-- A slice of acts that can be read. -/
def Acts (w : World) (A : Option Addr) (n : Nat) (X : Nat → ActD) : Prop :=
  n ≤ 9223372036854775807 ∧ (∀ i, i < n → (X i).ok w) ∧ (0 < n → ∃ b o, A = some ⟨b, o, none⟩ ∧ ∀ i, i < n → ActAt w b (o + i * 5) (X i))
def lightB (n : Nat) (X : Nat → ActD) : Bool := decide (n ≤ 40 ∧ ∀ i, i < n → (X i).fL ≤ 60)

end Go.Proofs.Ytdbfmllcapikkaa
/- Plain facts on a disk's state. -/
namespace Go.Proofs.Ytdbfmllcapikkaa
set_option linter.unusedVariables false

theorem nowTo_out (f : Nat → Nat → Nat) (j : Nat) : ∀ (l : List (Nat × (Nat → Nat))) (now : Nat → Nat → Nat), (∀ x ∈ l, x.1 ≠ j) → nowTo f now l j = now j
  | [], _, _ => rfl
  | x :: r, now, h => by
    show nowTo f (upd now x.1 (f x.1)) r j = now j
    rw [nowTo_out f j r _ fun y hy => h y (List.mem_cons_of_mem _ hy)]
    unfold upd
    rw [if_neg (fun e => h x (List.mem_cons_self ..) e.symm)]
theorem nowTo_keeps (f : Nat → Nat → Nat) (j : Nat) : ∀ (l : List (Nat × (Nat → Nat))) (now : Nat → Nat → Nat), now j = f j → nowTo f now l j = f j
  | [], _, h => h
  | x :: r, now, h => by
    refine nowTo_keeps f j r (upd now x.1 (f x.1)) ?_
    unfold upd
    by_cases e : j = x.1
    · rw [if_pos e, e]
    · rw [if_neg e, h]
theorem nowTo_in (f : Nat → Nat → Nat) (j : Nat) : ∀ (l : List (Nat × (Nat → Nat))) (now : Nat → Nat → Nat), (∃ x ∈ l, x.1 = j) → nowTo f now l j = f j
  | [], _, h => by obtain ⟨_, h, _⟩ := h; cases h
  | x :: r, now, h => by
    show nowTo f (upd now x.1 (f x.1)) r j = f j
    by_cases e : x.1 = j
    · refine nowTo_keeps f j r _ ?_
      unfold upd
      rw [if_pos e.symm, e]
    · refine nowTo_in f j r _ ?_
      obtain ⟨y, hy, hj⟩ := h
      rcases List.mem_cons.1 hy with rfl | hy
      · exact absurd hj e
      · exact ⟨y, hy, hj⟩
theorem fastTo_out (j : Nat) : ∀ (l : List (Nat × (Nat → Nat))) (f : Nat → Nat → Nat), (∀ x ∈ l, x.1 ≠ j) → fastTo f l j = f j
  | [], _, _ => rfl
  | x :: r, f, h => by
    show fastTo (upd f x.1 x.2) r j = f j
    rw [fastTo_out j r _ fun y hy => h y (List.mem_cons_of_mem _ hy)]
    unfold upd
    rw [if_neg (fun e => h x (List.mem_cons_self ..) e.symm)]
theorem fastTo_snoc (f : Nat → Nat → Nat) (l : List (Nat × (Nat → Nat))) (x : Nat × (Nat → Nat)) : fastTo f (l ++ [x]) = upd (fastTo f l) x.1 x.2 := by
  unfold fastTo
  rw [List.foldl_append]
  rfl
theorem crashTo_out (S : DS) (fa : Nat → Int) (L j : Nat) (h : ∀ x ∈ S.loose, x.1 ≠ j) : ∀ k, (crashTo S fa L k).1 j = S.fast j
  | 0 => rfl
  | k + 1 => by
    have ih := crashTo_out S fa L j h k
    simp only [crashTo]
    split
    · exact ih
    · rename_i x hx
      have hm : x.1 ≠ j := h x (List.mem_of_getElem? hx)
      have hu : ∀ G : Nat → Nat, upd (crashTo S fa L k).1 x.1 G j = (crashTo S fa L k).1 j := fun G => by
        unfold upd
        rw [if_neg (fun e => hm e.symm)]
      split
      · exact (hu _).trans ih
      · split
        · exact (hu _).trans ih
        · exact ih

section
variable (S : DS) (x : ActD)
theorem flushD_N : (flushD S).N = S.N := by unfold flushD flushS; split <;> (try split) <;> simp [strikeS_N]
theorem flushD_size : (flushD S).size = S.size := by unfold flushD flushS; split <;> (try split) <;> simp [strikeS_size]
theorem putS_N (a : Int) (n : Nat) (F : Nat → Nat) : (putS S a n F).N = S.N := by unfold putS; split <;> simp [strikeS_N, keepS]
theorem putS_size (a : Int) (n : Nat) (F : Nat → Nat) : (putS S a n F).size = S.size := by unfold putS; split <;> simp [strikeS_size, keepS]
theorem didS_N : (didS S x).N = S.N := by
  unfold didS
  split
  · exact flushD_N S
  · split
    · rfl
    · split
      · rfl
      · split
        · rfl
        · exact putS_N ..
theorem didS_size : (didS S x).size = S.size := by
  unfold didS
  split
  · exact flushD_size S
  · split
    · rfl
    · split
      · rfl
      · split
        · rfl
        · exact putS_size ..
theorem didS_len : (didS S x).loose.length ≤ S.loose.length + 1 := by
  unfold didS
  split
  · unfold flushD flushS; split
    · omega
    · split
      · rw [strikeS_loose]; omega
      · simp
  · split
    · omega
    · split
      · simp [armS]
      · split
        · simp [crashS]
        · unfold putS; split
          · omega
          · rw [strikeS_loose]; simp [keepS]
end

/-- What is read is what was written last, loose or fast. -/
def NowInv (S : DS) : Prop := ∀ j, S.now j = fastTo S.fast S.loose j
theorem NowInv.strike {S : DS} (h : NowInv S) : NowInv (strikeS S) := fun j => by rw [strikeS_now, strikeS_fast, strikeS_loose]; exact h j
theorem NowInv.keep {S : DS} (h : NowInv S) (k : Nat) (F : Nat → Nat) : NowInv (keepS S k F) := fun j => by
  show upd S.now k F j = fastTo S.fast (S.loose ++ [(k, F)]) j
  rw [fastTo_snoc]
  unfold upd
  by_cases e : j = k
  · rw [if_pos e, if_pos e]
  · rw [if_neg e, if_neg e]; exact h j
theorem NowInv.flush {S : DS} (h : NowInv S) : NowInv (flushS S) := fun j => by
  show (strikeS S).now j = fastTo (fastTo S.fast S.loose) [] j
  rw [strikeS_now]
  exact h j
theorem NowInv.crash {S : DS} (h : NowInv S) (fa : Nat → Int) (L : Nat) : NowInv (crashS S fa L) := fun j => by
  show nowTo (crashTo S fa L S.loose.length).1 S.now S.loose j = (crashTo S fa L S.loose.length).1 j
  by_cases e : ∃ x ∈ S.loose, x.1 = j
  · exact nowTo_in _ j _ _ e
  · have e2 : ∀ x ∈ S.loose, x.1 ≠ j := fun x hx q => e ⟨x, hx, q⟩
    rw [nowTo_out _ j _ _ e2, crashTo_out S fa L j e2, h j, fastTo_out j _ _ e2]
theorem NowInv.did {S : DS} (h : NowInv S) (x : ActD) : NowInv (didS S x) := by
  unfold didS
  split
  · unfold flushD; split
    · exact h
    · split
      · exact h.strike
      · exact h.flush
  · split
    · exact h
    · split
      · exact h
      · split
        · exact h.crash _ _
        · unfold putS; split
          · exact h
          · exact (h.keep _ _).strike
theorem NowInv.new (N size : Nat) : NowInv (newS N size) := fun _ => rfl

/-- Sector k holds F, fast, and nothing loose is for it. -/
structure Fast (k : Nat) (F : Nat → Nat) (S : DS) : Prop where
  l : ∀ x ∈ S.loose, x.1 ≠ k
  f : S.fast k = F
  n : S.now k = F
section
variable {k : Nat} {F : Nat → Nat} {S : DS}
theorem Fast.strike (h : Fast k F S) : Fast k F (strikeS S) := ⟨by rw [strikeS_loose]; exact h.l, by rw [strikeS_fast]; exact h.f, by rw [strikeS_now]; exact h.n⟩
theorem Fast.keep (h : Fast k F S) (j : Nat) (G : Nat → Nat) (hj : j ≠ k) : Fast k F (keepS S j G) := by
  refine ⟨fun x hx => ?_, h.f, ?_⟩
  · rcases List.mem_append.1 (show x ∈ S.loose ++ [(j, G)] from hx) with q | q
    · exact h.l x q
    · rw [List.mem_singleton.1 q]; exact hj
  · show upd S.now j G k = F
    unfold upd
    rw [if_neg (fun e => hj e.symm)]
    exact h.n
theorem Fast.flush (h : Fast k F S) : Fast k F (flushS S) := by
  refine ⟨fun x hx => ?_, ?_, ?_⟩
  · cases hx
  · show fastTo S.fast S.loose k = F
    rw [fastTo_out k _ _ h.l]; exact h.f
  · show (strikeS S).now k = F
    rw [strikeS_now]; exact h.n
theorem Fast.crash (h : Fast k F S) (fa : Nat → Int) (L : Nat) : Fast k F (crashS S fa L) := by
  refine ⟨fun x hx => ?_, ?_, ?_⟩
  · cases hx
  · exact (crashTo_out S fa L k h.l _).trans h.f
  · exact (nowTo_out _ k _ _ h.l).trans h.n
theorem Fast.did (h : Fast k F S) (x : ActD) (hx : x.at_ ≠ k) : Fast k F (didS S x) := by
  unfold didS
  split
  · unfold flushD; split
    · exact h
    · split
      · exact h.strike
      · exact h.flush
  · split
    · exact h
    · split
      · exact ⟨h.l, h.f, h.n⟩
      · split
        · exact h.crash _ _
        · unfold putS; split
          · exact h
          · rename_i q
            have r0 : reachI S x.at_ = 0 := by
              by_cases e : reachI S x.at_ = 0
              · exact e
              · exact absurd (.inl e) q
            have := reach_in r0
            exact (h.keep _ _ (by omega)).strike
theorem Fast.of_flush (h : NowInv S) (k : Nat) : Fast k (S.now k) (flushS S) := ⟨fun x hx => (by cases hx), (h k).symm, (by show (strikeS S).now k = _; rw [strikeS_now])⟩
end

/-- Acts, one behind the other; all but those at one place. -/
def runS (S0 : DS) (X : Nat → ActD) : Nat → DS
  | 0 => S0
  | k + 1 => didS (runS S0 X k) (X k)
def runF (S0 : DS) (X : Nat → ActD) (at_ : Nat) : Nat → DS
  | 0 => S0
  | k + 1 => if (X k).at_ = at_ then runF S0 X at_ k else didS (runF S0 X at_ k) (X k)
theorem runS_N (S0 : DS) (X : Nat → ActD) : ∀ k, (runS S0 X k).N = S0.N ∧ (runS S0 X k).size = S0.size ∧ (runS S0 X k).loose.length ≤ S0.loose.length + k
  | 0 => ⟨rfl, rfl, Nat.le_refl _⟩
  | k + 1 => by
    obtain ⟨h1, h2, h3⟩ := runS_N S0 X k
    have := didS_len (runS S0 X k) (X k)
    exact ⟨(didS_N _ _).trans h1, (didS_size _ _).trans h2, by show (didS _ _).loose.length ≤ _; omega⟩
theorem runF_N (S0 : DS) (X : Nat → ActD) (a : Nat) : ∀ k, (runF S0 X a k).N = S0.N ∧ (runF S0 X a k).size = S0.size ∧ (runF S0 X a k).loose.length ≤ S0.loose.length + k
  | 0 => ⟨rfl, rfl, Nat.le_refl _⟩
  | k + 1 => by
    obtain ⟨h1, h2, h3⟩ := runF_N S0 X a k
    have := didS_len (runF S0 X a k) (X k)
    unfold runF
    split
    · exact ⟨h1, h2, by omega⟩
    · exact ⟨(didS_N _ _).trans h1, (didS_size _ _).trans h2, by omega⟩
theorem runS_inv {S0 : DS} (h : NowInv S0) (X : Nat → ActD) : ∀ k, NowInv (runS S0 X k)
  | 0 => h
  | k + 1 => (runS_inv h X k).did _
theorem runF_fast {S0 : DS} {a : Nat} {F : Nat → Nat} (h : Fast a F S0) (X : Nat → ActD) : ∀ k, Fast a F (runF S0 X a k)
  | 0 => h
  | k + 1 => by
    have ih := runF_fast h X k
    unfold runF
    split
    · exact ih
    · rename_i q
      exact ih.did _ q
end Go.Proofs.Ytdbfmllcapikkaa
/- Plain facts on slots: what a written one is read as; torn ones. -/
namespace Go.Proofs.Ytdbfmllcapikkaa
open Go.RowKit
set_option linter.unusedVariables false
set_option linter.unusedSimpArgs false

/-- The sector of a change in a slot of an epoch. -/
abbrev chSec (sz ep i page : Nat) (last : Bool) (G : Nat → Nat) : Nat → Nat := secF (sz - 20) (mkN ep i) (9 + (sz - 45)) (loadF page last G)
theorem mkN_lt {ep i : Nat} (he : ep ≤ 1099511627776) (hi : i ≤ 1048576) : 1 ≤ mkN ep i ∧ mkN ep i ≤ 4611686018427387904 := by unfold mkN; omega
theorem mkN_div {ep i : Nat} (hi : i ≤ 1048576) : mkN ep i / 2097152 = ep := by unfold mkN; omega
section
variable {sz ep i page : Nat} {last : Bool} {G : Nat → Nat}
theorem chSec_lt (he : ep ≤ 1099511627776) (hi : i ≤ 1048576) (hG : ∀ j, G j < 256) (k : Nat) : chSec sz ep i page last G k < 256 :=
  secF_lt (by have := (mkN_lt (i := i) he hi).2; omega) (loadF_lt fun j _ => hG j) k
theorem chSec_ok (hs : 64 ≤ sz) (he : ep ≤ 1099511627776) (hi : i ≤ 1048576) (hG : ∀ j, G j < 256) : okP (chSec sz ep i page last G) (sz - 20) :=
  sec_ok (by omega) (mkN_lt he hi).1 (mkN_lt he hi).2 fun k _ => chSec_lt he hi hG k
theorem chSec_mark (hs : 64 ≤ sz) (he : ep ≤ 1099511627776) (hi : i ≤ 1048576) : leTo (chSec sz ep i page last G) 8 = mkN ep i :=
  sec_mark (by have := (mkN_lt (i := i) he hi).2; omega) (by omega)
theorem chSec_epoch (hs : 64 ≤ sz) (he1 : 1 ≤ ep) (he : ep ≤ 1099511627776) (hi : i ≤ 1048576) (hG : ∀ j, G j < 256) : epochN (chSec sz ep i page last G) (sz - 20) i = ep := by
  have q := chSec_mark (page := page) (last := last) (G := G) hs he hi
  have := epoch_yes (chSec_ok (page := page) (last := last) hs he hi hG) (i := i) (by rw [q, mkN_div hi]; exact ⟨he1, he⟩) (by rw [q, mkN_div hi])
  rw [this, q, mkN_div hi]
theorem chSec_load (hs : 64 ≤ sz) (he : ep ≤ 1099511627776) (hi : i ≤ 1048576) {j : Nat} (hj : j < sz - 36) : chSec sz ep i page last G (16 + j) = loadF page last G j := by
  have := secF_load (m := sz - 20) (v := mkN ep i) (n := 9 + (sz - 45)) (G := loadF page last G) (by have := (mkN_lt (i := i) he hi).2; omega) (i := 16 + j) (by omega) (by omega) (by omega)
  rw [Nat.add_sub_cancel_left] at this
  exact this
theorem chSec_page (hs : 64 ≤ sz) (he : ep ≤ 1099511627776) (hi : i ≤ 1048576) (hp : page ≤ 2147483647) : pageI (chSec sz ep i page last G) = page := by
  have e : leTo (fun j => chSec sz ep i page last G (16 + j)) 8 = page := by
    have e8 : (256 : Nat) ^ 8 = 18446744073709551616 := by decide
    refine leTo_eq (by rw [e8]; omega) fun j hj => ?_
    rw [chSec_load hs he hi (by omega)]
    unfold loadF
    rw [if_pos hj]
  unfold pageI takeI
  rw [e]
  exact wrap_small (by omega)
theorem chSec_flag (hs : 64 ≤ sz) (he : ep ≤ 1099511627776) (hi : i ≤ 1048576) : flagN (chSec sz ep i page last G) = if last then 1 else 0 := by
  unfold flagN
  rw [chSec_load (j := 8) hs he hi (by omega)]
  unfold loadF
  rw [if_neg (by omega), if_pos rfl]
theorem chSec_bytes (hs : 64 ≤ sz) (he : ep ≤ 1099511627776) (hi : i ≤ 1048576) {j : Nat} (hj : j < sz - 45) : chSec sz ep i page last G (25 + j) = G j := by
  rw [show 25 + j = 16 + (9 + j) by omega, chSec_load hs he hi (by omega)]
  unfold loadF
  rw [if_neg (by omega), if_neg (by omega), Nat.add_sub_cancel_left]
theorem chSec_ch (hs : 64 ≤ sz) (he1 : 1 ≤ ep) (he : ep ≤ 1099511627776) (hi : i ≤ 1048576) (hG : ∀ j, G j < 256) (hp : page ≤ 2147483647) : isCh (chSec sz ep i page last G) (sz - 20) i ep :=
  ⟨chSec_epoch hs he1 he hi hG, by rw [chSec_page hs he hi hp]; omega, by rw [chSec_page hs he hi hp]; omega, by rw [chSec_flag hs he hi]; split <;> omega⟩
end
/-- A slot's bytes count alone. -/
theorem epoch_congr {F H : Nat → Nat} {m i : Nat} (hm : 44 ≤ m) (h : ∀ k, k < m + 20 → F k = H k) : epochN F m i = epochN H m i := by
  have e : leTo F 8 = leTo H 8 := leTo_congr fun k hk => h k (by omega)
  have k : okP F m ↔ okP H m := ⟨okP_congr hm h, okP_congr hm fun k hk => (h k hk).symm⟩
  unfold epochN
  rw [e]
  by_cases q : okP F m
  · rw [if_pos q, if_pos (k.1 q)]
  · rw [if_neg q, if_neg fun z => q (k.2 z)]
theorem ch_congr {F H : Nat → Nat} {m i ep : Nat} (hm : 44 ≤ m) (h : ∀ k, k < m + 20 → F k = H k) : isCh F m i ep ↔ isCh H m i ep := by
  have e1 : pageI F = pageI H := by unfold pageI takeI; rw [leTo_congr fun k hk => h (16 + k) (by omega)]
  have e2 : flagN F = flagN H := h 24 (by omega)
  unfold isCh
  rw [epoch_congr hm h, e1, e2]
theorem epoch_zero {F : Nat → Nat} {m i : Nat} (hm : 44 ≤ m) (h : ∀ k, k < m + 20 → F k = 0) : epochN F m i = 0 := by
  refine epoch_bad fun q => ?_
  have : leTo F 8 = 0 := by
    have e : leTo F 8 = leTo (fun _ => 0) 8 := leTo_congr fun k hk => h k (by omega)
    rw [e]; rfl
  have := q.1.1
  omega
/-- The first piece of a sector upon zeros, or upon a sector of another mark: what is read as a sector is one of them. -/
theorem torn_new {m M0 M1 c : Nat} {base S1 : Nat → Nat} {zero : Bool} (hm : 44 ≤ m)
    (h0 : zero = false → Marked base m M0) (hz : zero = true → ∀ i, i < m + 20 → base i = 0) (h1 : Marked S1 m M1)
    (v0 : M0 ≤ 4611686018427387904) (v1 : M1 ≤ 4611686018427387904) (n01 : zero = false → M0 ≠ M1)
    (hF : ∀ i, i < m + 20 → copyF base 0 c S1 i < 256) (hok : okP (copyF base 0 c S1) m) :
    (∀ i, i < m + 20 → copyF base 0 c S1 i = S1 i) ∨ (zero = false ∧ ∀ i, i < m + 20 → copyF base 0 c S1 i = base i) := by
  obtain ⟨hh, ht⟩ := ok_head hm hF hok
  have hv2 := hok.1.2
  generalize leTo (copyF base 0 c S1) 8 = v at hh ht hv2
  have hv : v < 18446744073709551616 := by omega
  have at_ : ∀ i, copyF base 0 c S1 i = if i < c then S1 i else base i := fun i => by
    unfold copyF
    simp only [Nat.zero_le, true_and, Nat.zero_add, Nat.sub_zero]
  simp only [at_] at hh ht ⊢
  by_cases d : m + 12 ≤ c
  · have e1 : v = M1 := low_eq hv (by omega) fun i hi => by
      have := ht i (by omega)
      rw [if_pos (by omega)] at this
      rw [this, h1.2 i (by omega)]
    refine .inl fun i hi => ?_
    by_cases y : i < c
    · rw [if_pos y]
    · obtain ⟨k, rfl⟩ : ∃ k, i = m + 4 + k := ⟨i - (m + 4), by omega⟩
      rw [← ht k (by omega), e1, h1.2 k (by omega)]
  · have base_high : zero = false ∧ v = M0 := by
      have h : ∀ i, 8 ≤ i → i < 16 → headF v i = base (m + 4 + i) := fun i x y => by
        have := ht i y
        rw [if_neg (by omega)] at this
        exact this
      cases zero with
      | true => exact absurd (fun i a b => (h i a b).trans (hz rfl _ (by omega))) (fun q => high_zero hv2 q)
      | false => exact ⟨rfl, high_eq hv (by omega) fun i a b => (h i a b).trans ((h0 rfl).2 i b)⟩
    by_cases f : 16 ≤ c
    · have e1 : v = M1 := low_eq hv (by omega) fun i hi => by
        have := hh i (by omega)
        rw [if_pos (by omega)] at this
        rw [this, h1.1 i (by omega)]
      exact absurd (base_high.2.symm.trans e1) (n01 base_high.1)
    · refine .inr ⟨base_high.1, fun i hi => ?_⟩
      by_cases x : i < 16
      · rw [← hh i x, base_high.2, (h0 base_high.1).1 i x]
      · rw [if_neg (by omega)]
/-- What a slot held ahead of an epoch: zeros, or a sector of an elder epoch and that slot. -/
def Elder (sz ep i : Nat) (F : Nat → Nat) : Prop := (∀ k, k < sz → F k = 0) ∨ ∃ e, 1 ≤ e ∧ e < ep ∧ (∀ k, k < sz → F k < 256) ∧ Marked F (sz - 20) (mkN e i)
theorem mkN_ne {e ep i : Nat} (h : e < ep) : mkN e i ≠ mkN ep i := by unfold mkN; omega
theorem leTo_marked {F : Nat → Nat} {m M : Nat} (hM : M ≤ 4611686018427387904) (h : Marked F m M) : leTo F 8 = M :=
  leTo_head (v := M) (by omega) fun i hi => (h.1 i (by omega)).symm
theorem epoch_or (F : Nat → Nat) (m i : Nat) : epochN F m i = 0 ∨ epochN F m i = leTo F 8 / 2097152 := by
  unfold epochN
  split
  · split
    · exact .inr rfl
    · exact .inl rfl
  · exact .inl rfl
theorem elder_epoch {sz ep i e' : Nat} {F : Nat → Nat} (hs : 64 ≤ sz) (he : ep ≤ 1099511627776) (hi : i ≤ 1048576) (h : Elder sz ep i F) (h1 : ep ≤ e') (h0 : 1 ≤ e') : epochN F (sz - 20) i ≠ e' := by
  rcases h with h | ⟨e, h2, h3, h4, h5⟩
  · rw [epoch_zero (by omega) fun k hk => h k (by omega)]
    omega
  · rcases epoch_or F (sz - 20) i with q | q
    · omega
    · rw [q, leTo_marked (mkN_lt (by omega) hi).2 h5, mkN_div hi]
      omega
theorem elder_no {sz ep i e' : Nat} {F : Nat → Nat} (hs : 64 ≤ sz) (he : ep ≤ 1099511627776) (hi : i ≤ 1048576) (h : Elder sz ep i F) (h1 : ep ≤ e') (h0 : 1 ≤ e') : ¬ isCh F (sz - 20) i e' := fun q => elder_epoch hs he hi h h1 h0 q.1
theorem elder_sec {sz e ep i page : Nat} {last : Bool} {G : Nat → Nat} (hs : 64 ≤ sz) (he : e ≤ 1099511627776) (h1 : 1 ≤ e) (hep : e < ep) (hi : i ≤ 1048576) (hG : ∀ j, G j < 256) : Elder sz ep i (chSec sz e i page last G) :=
  .inr ⟨e, h1, hep, fun k _ => chSec_lt he hi hG k, sec_marked (by have := (mkN_lt (i := i) he hi).2; omega) (by omega)⟩
/-- What a torn write over an elder slot is read as, in the newer epoch: all of it, or none. -/
theorem torn_ch {sz ep i page c : Nat} {last : Bool} {G base : Nat → Nat} (hs : 64 ≤ sz) (h1 : 1 ≤ ep) (he : ep ≤ 1099511627776) (hi : i ≤ 1048576) (hG : ∀ j, G j < 256) (hb : Elder sz ep i base) (hch : isCh (copyF base 0 c (chSec sz ep i page last G)) (sz - 20) i ep) :
    ∀ k, k < sz → copyF base 0 c (chSec sz ep i page last G) k = chSec sz ep i page last G k := by
  have hlt : ∀ k, k < sz → copyF base 0 c (chSec sz ep i page last G) k < 256 := fun k hk => by
    unfold copyF
    split
    · exact chSec_lt he hi hG _
    · rcases hb with h | ⟨e, _, _, h, _⟩
      · rw [h k hk]; omega
      · exact h k hk
  have hok : okP (copyF base 0 c (chSec sz ep i page last G)) (sz - 20) := Classical.byContradiction fun q => by
    have := hch.1
    rw [epoch_bad q] at this
    omega
  have hm1 : Marked (chSec sz ep i page last G) (sz - 20) (mkN ep i) := sec_marked (by have := (mkN_lt (i := i) he hi).2; omega) (by omega)
  have hmm := mkN_lt (i := i) he hi
  rcases hb with h | ⟨e, h2, h3, h4, h5⟩
  · rcases torn_new (M0 := 0) (zero := true) (m := sz - 20) (by omega) (fun q => by cases q) (fun _ k hk => h k (by omega)) hm1 (by omega) hmm.2 (fun q => by cases q) (fun k hk => hlt k (by omega)) hok with q | ⟨q, _⟩
    · exact fun k hk => q k (by omega)
    · cases q
  · rcases torn_new (M0 := mkN e i) (zero := false) (m := sz - 20) (by omega) (fun _ => h5) (fun q => by cases q) hm1 (mkN_lt (by omega) hi).2 hmm.2 (fun _ => mkN_ne h3) (fun k hk => hlt k (by omega)) hok with q | ⟨_, q⟩
    · exact fun k hk => q k (by omega)
    · refine absurd hch ?_
      rw [ch_congr (by omega) q]
      exact elder_no hs (by omega) hi (.inr ⟨e, h2, h3, h4, h5⟩) (Nat.le_refl _) h1
/-- A torn write over an elder slot, or zeros, is no slot of a still newer epoch. -/
theorem torn_elder {sz e ep i page c : Nat} {last : Bool} {G base : Nat → Nat} (hs : 64 ≤ sz) (h1 : 1 ≤ e) (hep : e < ep) (he : ep ≤ 1099511627776) (hi : i ≤ 1048576) (hG : ∀ j, G j < 256) (hb : ∀ k, k < sz → base k = 0) :
    ¬ isCh (copyF base 0 c (chSec sz e i page last G)) (sz - 20) i ep := fun hch => by
  have hlt : ∀ k, k < sz → copyF base 0 c (chSec sz e i page last G) k < 256 := fun k hk => by
    unfold copyF
    split
    · exact chSec_lt (by omega) hi hG _
    · rw [hb k hk]; omega
  have hok : okP (copyF base 0 c (chSec sz e i page last G)) (sz - 20) := Classical.byContradiction fun q => by
    have := hch.1
    rw [epoch_bad q] at this
    omega
  have hm1 : Marked (chSec sz e i page last G) (sz - 20) (mkN e i) := sec_marked (by have := (mkN_lt (ep := e) (i := i) (by omega) hi).2; omega) (by omega)
  rcases torn_new (M0 := 0) (zero := true) (m := sz - 20) (by omega) (fun q => by cases q) (fun _ k hk => hb k (by omega)) hm1 (by omega) (mkN_lt (by omega) hi).2 (fun q => by cases q) (fun k hk => hlt k (by omega)) hok with q | ⟨q, _⟩
  · rw [ch_congr (by omega) q] at hch
    exact elder_no hs (by omega) hi (elder_sec (page := page) (last := last) hs (by omega) h1 hep hi hG) (Nat.le_refl _) (by omega) hch
  · cases q
end Go.Proofs.Ytdbfmllcapikkaa
/- A log as a machine, plain: what groups make of a disk, what a crash leaves of them. -/
namespace Go.Proofs.Ytdbfmllcapikkaa
open Go.RowKit
set_option linter.unusedVariables false
set_option linter.unusedSimpArgs false

/-- A log that goes on, on a disk that is up and has nothing loose. -/
structure Alive (f cn : Nat) (L : LS) : Prop where
  dd : L.dead = false
  dn : L.S.down = false
  lo : L.S.loose = []
  nf : ∀ j, L.S.now j = L.S.fast j
  nx : L.nx ≤ cn
  sz : 64 ≤ L.S.size ∧ L.S.size ≤ 4096
  N : f + cn ≤ L.S.N
/-- What k sectors, one behind the other, leave. -/
structure Wrote (a : Nat) (sec : Nat → Nat → Nat) (S : DS) (k : Nat) (T : DS) : Prop where
  lo : T.loose = S.loose ++ (List.range k).map fun j => (a + j, sec j)
  fast : T.fast = S.fast
  at_ : ∀ j, j < k → T.now (a + j) = sec j
  out : ∀ j, (∀ i, i < k → j ≠ a + i) → T.now j = S.now j
  size : T.size = S.size
  N : T.N = S.N
theorem Wrote.zero (a : Nat) (sec : Nat → Nat → Nat) (S : DS) : Wrote a sec S 0 S := ⟨by simp, rfl, fun j h => absurd h (by omega), fun _ _ => rfl, rfl, rfl⟩
theorem Wrote.keep {a k : Nat} {sec : Nat → Nat → Nat} {S T : DS} (h : Wrote a sec S k T) : Wrote a sec S (k + 1) (strikeS (keepS T (a + k) (sec k))) := by
  refine ⟨?_, ?_, fun j hj => ?_, fun j hj => ?_, ?_, ?_⟩
  · rw [strikeS_loose]
    show T.loose ++ [(a + k, sec k)] = _
    rw [h.lo, List.range_succ, List.map_append, List.append_assoc]
    rfl
  · rw [strikeS_fast]; exact h.fast
  · rw [strikeS_now]
    show upd T.now (a + k) (sec k) (a + j) = _
    unfold upd
    by_cases e : j = k
    · subst e; rw [if_pos rfl]
    · rw [if_neg (by omega)]; exact h.at_ j (by omega)
  · rw [strikeS_now]
    show upd T.now (a + k) (sec k) j = _
    unfold upd
    rw [if_neg (hj k (by omega))]
    exact h.out j fun i hi => hj i (by omega)
  · rw [strikeS_size]; exact h.size
  · rw [strikeS_N]; exact h.N
theorem put_in {S : DS} {a : Nat} {F : Nat → Nat} (hd : S.down = false) (ha : a < S.N) : putS S (a : Int) S.size F = strikeS (keepS S a F) ∧ putI S (a : Int) S.size F = strikeI (keepS S a F) := by
  have e : reachI S (a : Int) = 0 := by
    unfold reachI
    rw [if_neg (by rw [hd]; decide), if_neg (by omega)]
  unfold putS putI
  rw [if_neg (fun q => q.elim (fun z => z e) fun z => z rfl), if_neg (fun q => q e), if_neg (fun q => q rfl)]
  exact ⟨rfl, rfl⟩
theorem strike_zero {S : DS} (h : strikeI S = 0) (hd : S.down = false) : (strikeS S).down = false := by
  unfold strikeI at h
  unfold strikeS
  split
  · exact hd
  · split
    · rename_i q; rw [if_pos q] at h; cases h
    · exact hd
theorem strike_four {S : DS} (h : strikeI S ≠ 0) : strikeI S = 4 ∧ (strikeS S).down = true := by
  unfold strikeI at h ⊢
  unfold strikeS
  by_cases q : S.armed = 1
  · rw [if_pos q, if_neg (by omega), if_pos q]; exact ⟨rfl, rfl⟩
  · rw [if_neg q] at h; exact absurd rfl h
theorem wr_all {a : Nat} {sec : Nat → Nat → Nat} {S : DS} (hd : S.down = false) : ∀ k, a + k ≤ S.N → (∀ j, j < k → wrI a S.size sec S j = 0) → Wrote a sec S k (wrS a S.size sec S k) ∧ (wrS a S.size sec S k).down = false
  | 0, _, _ => ⟨Wrote.zero _ _ _, hd⟩
  | k + 1, hk, h => by
    obtain ⟨h1, h2⟩ := wr_all hd k (by omega) fun j hj => h j (by omega)
    have q := h k (by omega)
    have p := put_in (S := wrS a S.size sec S k) (a := a + k) (F := sec k) h2 (by rw [h1.N]; omega)
    rw [h1.size] at p
    have e1 : wrS a S.size sec S (k + 1) = strikeS (keepS (wrS a S.size sec S k) (a + k) (sec k)) := p.1
    have e2 : wrI a S.size sec S k = strikeI (keepS (wrS a S.size sec S k) (a + k) (sec k)) := p.2
    rw [e1]
    rw [e2] at q
    exact ⟨h1.keep, strike_zero q h2⟩
theorem wr_last {a k : Nat} {sec : Nat → Nat → Nat} {S : DS} (hd : S.down = false) (hk : a + (k + 1) ≤ S.N) (h : ∀ j, j < k → wrI a S.size sec S j = 0) (hne : wrI a S.size sec S k ≠ 0) : Wrote a sec S (k + 1) (wrS a S.size sec S (k + 1)) ∧ wrI a S.size sec S k = 4 := by
  obtain ⟨h1, h2⟩ := wr_all hd k (by omega) h
  have p := put_in (S := wrS a S.size sec S k) (a := a + k) (F := sec k) h2 (by rw [h1.N]; omega)
  rw [h1.size] at p
  have e1 : wrS a S.size sec S (k + 1) = strikeS (keepS (wrS a S.size sec S k) (a + k) (sec k)) := p.1
  have e2 : wrI a S.size sec S k = strikeI (keepS (wrS a S.size sec S k) (a + k) (sec k)) := p.2
  rw [e1]
  rw [e2] at hne ⊢
  exact ⟨h1.keep, (strike_four hne).1⟩
/-- A log whose disk went down while the k-th sector of a group was written, or behind all. -/
structure Fell (f ep : Nat) (L0 : LS) (n : Nat) (P : Nat → PutD) (L : LS) (k : Nat) : Prop where
  dd : L.dead = true
  k1 : 1 ≤ k
  kn : k ≤ n
  w : Wrote (f + L0.nx) (secL ep L0 n P) L0.S k L.S
theorem fastTo_get {j : Nat} : ∀ (l : List (Nat × (Nat → Nat))) (g : Nat → Nat → Nat) (F : Nat → Nat), (∀ x ∈ l, x.1 = j → x.2 = F) → (∃ x ∈ l, x.1 = j) → fastTo g l j = F
  | [], _, _, _, h => by obtain ⟨x, hx, _⟩ := h; cases hx
  | y :: l, g, F, h, he => by
    show fastTo (upd g y.1 y.2) l j = F
    by_cases q : ∃ x ∈ l, x.1 = j
    · exact fastTo_get l _ F (fun x hx => h x (List.mem_cons_of_mem _ hx)) q
    · rw [fastTo_out j l _ fun x hx e => q ⟨x, hx, e⟩]
      obtain ⟨x, hx, e⟩ := he
      rcases List.mem_cons.1 hx with rfl | hx
      · unfold upd
        rw [if_pos e.symm]
        exact h x List.mem_cons_self e
      · exact absurd ⟨x, hx, e⟩ q
theorem refuse_four (dead : Bool) (n : Nat) (X : Nat → ChD) (room left : Int) : refuseI dead n X room left ≠ 4 := by
  rcases refuse_or dead n X room left with h | h | h | h | h <;> rw [h] <;> decide
theorem app_dead {f cn ep n : Nat} {L : LS} {P : Nat → PutD} (h : L.dead = true) : appT f cn ep L n P = (21, L) := by
  have e : appR cn L n P = 21 := if_pos h
  rw [appT_no (by rw [e]; decide), e]
theorem fell_nx {f cn ep n : Nat} {L : LS} {P : Nat → PutD} (h0 : appR cn L n P = 0) (hd : (appT f cn ep L n P).2.dead = true) : (appT f cn ep L n P).2.nx = L.nx := by
  unfold appT at hd ⊢
  rw [if_neg (by rw [h0]; exact fun q => q rfl)] at hd ⊢
  split at hd
  · rfl
  · dsimp only at hd ⊢
    rw [if_neg (by simpa using hd)]
/-- What Append makes of a log that goes on. -/
theorem app_cases {f cn ep n : Nat} {L : LS} {P : Nat → PutD} (h : Alive f cn L) :
    (appR cn L n P ≠ 0 ∧ appR cn L n P ≠ 4 ∧ appT f cn ep L n P = (appR cn L n P, L)) ∨
    (appR cn L n P = 0 ∧ (appT f cn ep L n P).1 = 0 ∧ Alive f cn (appT f cn ep L n P).2 ∧ (appT f cn ep L n P).2.nx = L.nx + n ∧ (appT f cn ep L n P).2.S.size = L.S.size ∧ (appT f cn ep L n P).2.S.N = L.S.N ∧
      (∀ j, j < n → (appT f cn ep L n P).2.S.now (f + L.nx + j) = secL ep L n P j) ∧ (∀ j, (∀ i, i < n → j ≠ f + L.nx + i) → (appT f cn ep L n P).2.S.now j = L.S.now j)) ∨
    (appR cn L n P = 0 ∧ (appT f cn ep L n P).1 = 4 ∧ ∃ k, Fell f ep L n P (appT f cn ep L n P).2 k) := by
  by_cases h0 : appR cn L n P = 0
  · have h45 : 45 ≤ L.S.size := by have := h.sz.1; omega
    obtain ⟨z1, z2, z3, z4, z5⟩ := appR_zero h0 h45
    have hN := h.N
    by_cases hf : ∃ k, k < n ∧ wrI (f + L.nx) L.S.size (secL ep L n P) L.S k ≠ 0
    · -- the first that fails
      obtain ⟨k, hk, hke, hmin⟩ : ∃ k, k < n ∧ wrI (f + L.nx) L.S.size (secL ep L n P) L.S k ≠ 0 ∧ ∀ j, j < k → wrI (f + L.nx) L.S.size (secL ep L n P) L.S j = 0 := by
        obtain ⟨k, hk⟩ := hf
        induction k using Nat.strongRecOn with
        | _ k ih =>
          by_cases q : ∃ j, j < k ∧ wrI (f + L.nx) L.S.size (secL ep L n P) L.S j ≠ 0
          · obtain ⟨j, hj, hje⟩ := q
            exact ih j hj ⟨by omega, hje⟩
          · exact ⟨k, hk.1, hk.2, fun j hj => Classical.byContradiction fun z => q ⟨j, hj, z⟩⟩
      obtain ⟨w1, w2⟩ := wr_last h.dn (by omega) hmin hke
      rw [appT_at h0 hk hmin hke]
      exact .inr (.inr ⟨h0, w2, k + 1, rfl, by omega, by omega, w1⟩)
    · have hall : ∀ j, j < n → wrI (f + L.nx) L.S.size (secL ep L n P) L.S j = 0 := fun j hj => Classical.byContradiction fun q => hf ⟨j, hj, q⟩
      obtain ⟨w1, w2⟩ := wr_all h.dn n (by omega) hall
      rw [appT_all h0 hall]
      have eI : flushI (wrS (f + L.nx) L.S.size (secL ep L n P) L.S n) = strikeI (wrS (f + L.nx) L.S.size (secL ep L n P) L.S n) := if_neg (by rw [w2]; decide)
      rw [eI]
      by_cases hs : strikeI (wrS (f + L.nx) L.S.size (secL ep L n P) L.S n) = 0
      · have eD : flushD (wrS (f + L.nx) L.S.size (secL ep L n P) L.S n) = flushS (wrS (f + L.nx) L.S.size (secL ep L n P) L.S n) := by
          unfold flushD
          rw [if_neg (by rw [w2]; decide), if_neg (by rw [hs]; decide)]
        rw [eD, hs, if_pos rfl]
        have enow : (flushS (wrS (f + L.nx) L.S.size (secL ep L n P) L.S n)).now = (wrS (f + L.nx) L.S.size (secL ep L n P) L.S n).now := strikeS_now _
        have eN : (flushS (wrS (f + L.nx) L.S.size (secL ep L n P) L.S n)).N = L.S.N := (strikeS_N _).trans w1.N
        have eS : (flushS (wrS (f + L.nx) L.S.size (secL ep L n P) L.S n)).size = L.S.size := (strikeS_size _).trans w1.size
        refine .inr (.inl ⟨h0, rfl, ⟨by simp, ?_, rfl, fun j => ?_, z5, by rw [eS]; exact h.sz, by rw [eN]; exact hN⟩, rfl, eS, eN, fun j hj => ?_, fun j hj => ?_⟩)
        · exact strike_zero hs w2
        · show (flushS _).now j = fastTo (wrS (f + L.nx) L.S.size (secL ep L n P) L.S n).fast (wrS (f + L.nx) L.S.size (secL ep L n P) L.S n).loose j
          rw [enow, w1.fast, w1.lo, h.lo, List.nil_append]
          by_cases q : ∃ i, i < n ∧ j = f + L.nx + i
          · obtain ⟨i, hi, rfl⟩ := q
            rw [w1.at_ i hi]
            symm
            refine fastTo_get _ _ _ (fun x hx e => ?_) ⟨(f + L.nx + i, secL ep L n P i), List.mem_map.2 ⟨i, List.mem_range.2 hi, rfl⟩, rfl⟩
            obtain ⟨i', hi', rfl⟩ := List.mem_map.1 hx
            have e' : f + L.nx + i' = f + L.nx + i := e
            obtain rfl : i' = i := by omega
            rfl
          · rw [w1.out j fun i hi e => q ⟨i, hi, e⟩, h.nf j, fastTo_out]
            intro x hx e
            obtain ⟨i', hi', rfl⟩ := List.mem_map.1 hx
            exact q ⟨i', List.mem_range.1 hi', e.symm⟩
        · show (flushS _).now _ = _
          rw [enow]; exact w1.at_ j hj
        · show (flushS _).now _ = _
          rw [enow]; exact w1.out j hj
      · have q4 := strike_four hs
        have eD : flushD (wrS (f + L.nx) L.S.size (secL ep L n P) L.S n) = strikeS (wrS (f + L.nx) L.S.size (secL ep L n P) L.S n) := by
          unfold flushD
          rw [if_neg (by rw [w2]; decide), if_pos q4.1]
        rw [eD, q4.1]
        refine .inr (.inr ⟨h0, rfl, n, by simp, by omega, Nat.le_refl _, ⟨?_, ?_, fun j hj => ?_, fun j hj => ?_, ?_, ?_⟩⟩)
        · exact (strikeS_loose _).trans w1.lo
        · exact (strikeS_fast _).trans w1.fast
        · show (strikeS _).now _ = _
          rw [strikeS_now]; exact w1.at_ j hj
        · show (strikeS _).now _ = _
          rw [strikeS_now]; exact w1.out j hj
        · exact (strikeS_size _).trans w1.size
        · exact (strikeS_N _).trans w1.N
  · exact .inl ⟨h0, refuse_four _ _ _ _ _, appT_no h0⟩
theorem copyF_none (base F : Nat → Nat) : copyF base 0 0 F = base := by
  funext i
  unfold copyF
  rw [if_neg (by omega)]
theorem crash_to {S : DS} {fa : Nat → Int} {L a k : Nat} {F : Nat → Nat → Nat} (h : S.loose = (List.range k).map fun j => (a + j, F j)) : ∀ m, m ≤ k → ∃ c : Nat → Nat, (∀ j, j < m → (crashTo S fa L m).1 (a + j) = copyF (S.fast (a + j)) 0 (c j) (F j)) ∧ ∀ j, (∀ i, i < m → j ≠ a + i) → (crashTo S fa L m).1 j = S.fast j
  | 0, _ => ⟨fun _ => 0, fun j hj => absurd hj (by omega), fun _ _ => rfl⟩
  | m + 1, hm => by
    obtain ⟨c, h1, h2⟩ := crash_to (fa := fa) (L := L) h m (by omega)
    have hget : S.loose[m]? = some (a + m, F m) := by
      rw [h, List.getElem?_map, List.getElem?_range (by omega)]
      rfl
    have hbase := h2 (a + m) fun i hi e => by omega
    -- the m-th is written c' bytes far
    have hex : ∃ c', (crashTo S fa L (m + 1)).1 = upd (crashTo S fa L m).1 (a + m) (copyF (S.fast (a + m)) 0 c' (F m)) := by
      have e : crashTo S fa L (m + 1) = (match S.loose[m]? with
        | none => crashTo S fa L m
        | some x => if m + 1 = S.loose.length then (upd (crashTo S fa L m).1 x.1 (copyF ((crashTo S fa L m).1 x.1) 0 (choiceN fa L (crashTo S fa L m).2 (S.size + 1)) x.2), nextN L (crashTo S fa L m).2)
          else (if choiceN fa L (crashTo S fa L m).2 2 = 1 then upd (crashTo S fa L m).1 x.1 (copyF ((crashTo S fa L m).1 x.1) 0 S.size x.2) else (crashTo S fa L m).1, nextN L (crashTo S fa L m).2)) := rfl
      rw [e, hget]
      dsimp only
      rw [hbase]
      split
      · exact ⟨_, rfl⟩
      · dsimp only
        split
        · exact ⟨_, rfl⟩
        · refine ⟨0, ?_⟩
          rw [copyF_none, ← hbase]
          funext j
          unfold upd
          split
          · rename_i q; rw [q]
          · rfl
    obtain ⟨c', hc'⟩ := hex
    refine ⟨fun j => if j = m then c' else c j, fun j hj => ?_, fun j hj => ?_⟩
    · rw [hc']
      unfold upd
      dsimp only
      by_cases e : j = m
      · subst e; rw [if_pos rfl, if_pos rfl]
      · rw [if_neg (by omega), if_neg e]; exact h1 j (by omega)
    · rw [hc']
      unfold upd
      rw [if_neg (hj m (by omega))]
      exact h2 j fun i hi => hj i (by omega)
/-- What a crash leaves of loose writes: first pieces of them. -/
theorem crash_now {S : DS} {fa : Nat → Int} {L a k : Nat} {F : Nat → Nat → Nat} (h : S.loose = (List.range k).map fun j => (a + j, F j)) : ∃ c : Nat → Nat, (∀ j, j < k → (crashS S fa L).now (a + j) = copyF (S.fast (a + j)) 0 (c j) (F j)) ∧ ∀ j, (∀ i, i < k → j ≠ a + i) → (crashS S fa L).now j = S.now j := by
  have hl : S.loose.length = k := by rw [h]; simp
  obtain ⟨c, h1, h2⟩ := crash_to (fa := fa) (L := L) h k (Nat.le_refl _)
  refine ⟨c, fun j hj => ?_, fun j hj => ?_⟩
  · show nowTo (crashTo S fa L S.loose.length).1 S.now S.loose (a + j) = _
    rw [nowTo_in _ _ _ _ ⟨(a + j, F j), by rw [h]; exact List.mem_map.2 ⟨j, List.mem_range.2 hj, rfl⟩, rfl⟩, hl]
    exact h1 j hj
  · show nowTo (crashTo S fa L S.loose.length).1 S.now S.loose j = _
    rw [nowTo_out]
    intro x hx e
    rw [h] at hx
    obtain ⟨i, hi, rfl⟩ := List.mem_map.1 hx
    exact hj i (List.mem_range.1 hi) e.symm
theorem crash_quiet {S : DS} {fa : Nat → Int} {L : Nat} (h : S.loose = []) : (crashS S fa L).now = S.now ∧ (crashS S fa L).fast = S.fast := by
  unfold crashS
  rw [h]
  exact ⟨rfl, rfl⟩
end Go.Proofs.Ytdbfmllcapikkaa
/- What a log holds, plain: read as the document's groups. -/
namespace Go.Proofs.Ytdbfmllcapikkaa
open Go.RowKit
set_option linter.unusedVariables false
set_option linter.unusedSimpArgs false

def dcOf (S : DS) (f i : Nat) : Dc := (pageI (S.now (f + i)), strF (fun j => S.now (f + i) (25 + j)) (S.size - 45))
/-- Changes gathered into groups. -/
def dTo (last : Nat → Bool) (dc : Nat → Dc) : Nat → List (List Dc) × List Dc
  | 0 => ([], [])
  | k + 1 => if last k = true then ((dTo last dc k).1 ++ [(dTo last dc k).2 ++ [dc k]], []) else ((dTo last dc k).1, (dTo last dc k).2 ++ [dc k])
theorem gTo_dTo (last : Nat → Bool) (dc : Nat → Dc) : ∀ k, ((gTo last k).1.map (List.map dc), (gTo last k).2.map dc) = dTo last dc k
  | 0 => rfl
  | k + 1 => by
    have ih := gTo_dTo last dc k
    rw [gTo_succ]
    unfold gStep dTo
    rw [← ih]
    by_cases h : last k = true
    · rw [if_pos h, if_pos h]; simp
    · rw [if_neg h, if_neg h]; simp
theorem dTo_congr {l1 l2 : Nat → Bool} {d1 d2 : Nat → Dc} : ∀ k, (∀ i, i < k → l1 i = l2 i ∧ d1 i = d2 i) → dTo l1 d1 k = dTo l2 d2 k
  | 0, _ => rfl
  | k + 1, h => by
    unfold dTo
    rw [dTo_congr k fun i hi => h i (by omega), (h k (by omega)).1, (h k (by omega)).2]
/-- A whole group behind what is there, or its first part. -/
theorem dTo_run {last : Nat → Bool} {dc x : Nat → Dc} {nx n : Nat} {gs : List (List Dc)} (hn : 1 ≤ n) (h : dTo last dc nx = (gs, [])) : ∀ q, q ≤ n → (∀ j, j < q → last (nx + j) = decide (j + 1 = n) ∧ dc (nx + j) = x j) → dTo last dc (nx + q) = if q = n then (gs ++ [(List.range n).map x], []) else (gs, (List.range q).map x)
  | 0, _, _ => by rw [if_neg (by omega)]; exact h
  | q + 1, hq, hx => by
    have ih := dTo_run hn h q (by omega) fun j hj => hx j (by omega)
    rw [if_neg (by omega)] at ih
    show dTo last dc ((nx + q) + 1) = _
    unfold dTo
    rw [ih, (hx q (by omega)).1, (hx q (by omega)).2]
    by_cases e : q + 1 = n
    · rw [if_pos (decide_eq_true e), if_pos e, ← e, List.range_succ, List.map_append]; rfl
    · rw [if_neg (by rw [decide_eq_false e]; decide), if_neg e, List.range_succ, List.map_append]; rfl
theorem dc_congr {S T : DS} {f i : Nat} (hs : 64 ≤ S.size) (e : T.size = S.size) (h : ∀ k, k < S.size → T.now (f + i) k = S.now (f + i) k) : dcOf T f i = dcOf S f i ∧ lastB T f i = lastB S f i := by
  unfold dcOf lastB pageI takeI flagN
  refine ⟨Prod.ext ?_ ?_, ?_⟩
  · dsimp only
    rw [leTo_congr fun k hk => h (16 + k) (by omega)]
  · dsimp only
    rw [e]
    exact strF_congr fun k hk => h _ (by omega)
  · rw [h 24 (by omega)]
/-- What a put is as the document's change. -/
def putDc (room : Nat) (P : Nat → PutD) (i : Nat) : Dc := ((P i).page, strF (fun _ => (P i).b) (putN room (P i)))
def gD (room n : Nat) (P : Nat → PutD) : List Dc := (List.range n).map (putDc room P)
/-- A log's first slots hold groups of an epoch. -/
structure Cont (f ep : Nat) (S : DS) (nx : Nat) (gs : List (List Dc)) : Prop where
  ch : ∀ i, i < nx → chAt S f ep i
  rd : dTo (lastB S f) (dcOf S f) nx = (gs, [])
theorem Cont.zero (f ep : Nat) (S : DS) : Cont f ep S 0 [] := ⟨fun i hi => absurd hi (by omega), rfl⟩
theorem Cont.keep {f ep nx : Nat} {S T : DS} {gs : List (List Dc)} (h : Cont f ep S nx gs) (hs : 64 ≤ S.size) (e : T.size = S.size) (k : ∀ i, i < nx → T.now (f + i) = S.now (f + i)) : Cont f ep T nx gs :=
  ⟨fun i hi => by
    have := h.ch i hi
    unfold chAt at this ⊢
    rw [k i hi, e]; exact this, by
    rw [← h.rd]
    exact dTo_congr nx fun i hi => by
      obtain ⟨a, b⟩ := dc_congr (f := f) (i := i) hs e fun q _ => by rw [k i hi]
      exact ⟨b, a⟩⟩
/-- The slots behind the log's end. -/
def Rest (f cn : Nat) (R : Nat → (Nat → Nat) → Prop) (S : DS) (nx : Nat) : Prop := ∀ i, nx ≤ i → i < cn → R i (S.now (f + i))
theorem secL_at {ep n j : Nat} {L : LS} {P : Nat → PutD} (hp : putN (L.S.size - 45) (P j) = L.S.size - 45) : secL ep L n P j = chSec L.S.size ep (L.nx + j) (P j).page.toNat (decide (j + 1 = n)) (fun _ => (P j).b) := by
  unfold secL logSec chSec
  show secF (L.S.size - 20) (mkN ep (L.nx + j)) (9 + putN (L.S.size - 45) (P j)) _ = _
  rw [hp]
  rfl
/-- A slot that was written whole. -/
theorem wrote_slot {f ep n j : Nat} {L : LS} {T : DS} {P : Nat → PutD} (hs : 64 ≤ L.S.size) (he1 : 1 ≤ ep) (he : ep ≤ 1099511627776) (hi : L.nx + j ≤ 1048576) (hb : (P j).b < 256) (hpg : 0 ≤ (P j).page ∧ (P j).page ≤ 2147483647) (hp : putN (L.S.size - 45) (P j) = L.S.size - 45)
    (e : T.size = L.S.size) (h : ∀ k, k < L.S.size → T.now (f + (L.nx + j)) k = secL ep L n P j k) : chAt T f ep (L.nx + j) ∧ lastB T f (L.nx + j) = decide (j + 1 = n) ∧ dcOf T f (L.nx + j) = putDc (L.S.size - 45) P j := by
  have hG : ∀ k : Nat, (fun _ => (P j).b : Nat → Nat) k < 256 := fun _ => hb
  rw [secL_at hp] at h
  have h2 : pageI (T.now (f + (L.nx + j))) = (P j).page := by
    unfold pageI takeI
    rw [leTo_congr fun k hk => h (16 + k) (by omega)]
    have := chSec_page (ep := ep) (i := L.nx + j) (page := (P j).page.toNat) (last := decide (j + 1 = n)) (G := fun _ => (P j).b) hs he hi (by omega)
    unfold pageI takeI at this
    rw [this]
    omega
  have h3 : flagN (T.now (f + (L.nx + j))) = if decide (j + 1 = n) then 1 else 0 := (h 24 (by omega)).trans (chSec_flag hs he hi)
  refine ⟨?_, ?_, ?_⟩
  · unfold chAt
    rw [e, ch_congr (m := L.S.size - 20) (by omega) fun k hk => h k (by omega)]
    exact chSec_ch hs he1 he hi hG (by omega)
  · unfold lastB
    rw [h3]
    by_cases q : j + 1 = n
    · rw [decide_eq_true q]; rfl
    · rw [decide_eq_false q]; rfl
  · unfold dcOf putDc
    rw [h2, e, hp]
    congr 1
    exact strF_congr fun k hk => (h _ (by omega)).trans (chSec_bytes hs he hi (by omega))
/-- A group that was written whole behind the others. -/
theorem Cont.app {f cn ep n nx' : Nat} {L : LS} {T : DS} {P : Nat → PutD} {gs : List (List Dc)} (h : Cont f ep L.S L.nx gs) (hs : 64 ≤ L.S.size) (he1 : 1 ≤ ep) (he : ep ≤ 1099511627776) (hc : cn ≤ 1048576) (hb : ∀ j, j < n → (P j).b < 256) (h0 : appR cn L n P = 0)
    (e : T.size = L.S.size) (hn : nx' = L.nx + n) (at_ : ∀ j, j < n → ∀ k, k < L.S.size → T.now (f + L.nx + j) k = secL ep L n P j k) (out : ∀ j, (∀ i, i < n → j ≠ f + L.nx + i) → T.now j = L.S.now j) : Cont f ep T nx' (gs ++ [gD (L.S.size - 45) n P]) := by
  subst hn
  obtain ⟨z1, z2, z3, z4, z5⟩ := appR_zero h0 (by omega)
  have hk := h.keep (T := T) hs e fun i hi => out (f + i) fun j hj => by omega
  have hw := fun j (hj : j < n) => wrote_slot (f := f) (T := T) (n := n) hs he1 he (by omega) (hb j hj) (z3 j hj) (z4 j hj) e fun k hk => by
    rw [← Nat.add_assoc]; exact at_ j hj k hk
  refine ⟨fun i hi => ?_, ?_⟩
  · by_cases q : i < L.nx
    · exact hk.ch i q
    · obtain ⟨j, rfl⟩ : ∃ j, i = L.nx + j := ⟨i - L.nx, by omega⟩
      exact (hw j (by omega)).1
  · have := dTo_run (x := putDc (L.S.size - 45) P) z2 hk.rd n (Nat.le_refl _) fun j hj => (hw j hj).2
    rw [if_pos rfl] at this
    exact this
theorem Rest.app {f cn n nx' : Nat} {R : Nat → (Nat → Nat) → Prop} {L : LS} {T : DS} (h : Rest f cn R L.S L.nx) (hn : nx' = L.nx + n) (out : ∀ j, (∀ i, i < n → j ≠ f + L.nx + i) → T.now j = L.S.now j) : Rest f cn R T nx' := by
  subst hn
  intro i h1 h2
  rw [out (f + i) fun j hj => by omega]
  exact h i (by omega) h2
/-- Where the slots behind hold nothing of the epoch, just the log's own groups are read. -/
theorem read_cont {f cn ep nx k : Nat} {S : DS} {gs : List (List Dc)} (h : Cont f ep S nx gs) (hr : Rest f cn (fun i F => ¬ isCh F (S.size - 20) i ep) S nx) (hnx : nx ≤ cn) (hk : k ≤ cn) (hch : ∀ i, i < k → chAt S f ep i) (hno : k < cn → ¬ chAt S f ep k) : (dTo (lastB S f) (dcOf S f) k).1 = gs := by
  have e : k = nx := by
    rcases Nat.lt_trichotomy k nx with q | q | q
    · exact absurd (h.ch k q) (hno (by omega))
    · exact q
    · exact absurd (hch nx q) (hr nx (Nat.le_refl _) (by omega))
  rw [e, h.rd]
/-- Behind a crash in the midst of a group: the groups that were told, and it as well, or not. -/
theorem read_fell {f cn ep n k k' m : Nat} {L0 L : LS} {P : Nat → PutD} {gs : List (List Dc)} {fa : Nat → Int} (h0 : Alive f cn L0) (h : Cont f ep L0.S L0.nx gs) (hr : Rest f cn (fun i F => Elder L0.S.size ep i F) L0.S L0.nx) (he1 : 1 ≤ ep) (he : ep ≤ 1099511627776) (hc : cn ≤ 1048576)
    (hb : ∀ j, j < n → (P j).b < 256) (hR : appR cn L0 n P = 0) (hF : Fell f ep L0 n P L k) (hk : k' ≤ cn) (hch : ∀ i, i < k' → chAt (crashS L.S fa m) f ep i) (hno : k' < cn → ¬ chAt (crashS L.S fa m) f ep k') :
    (dTo (lastB (crashS L.S fa m) f) (dcOf (crashS L.S fa m) f) k').1 = gs ∨ (dTo (lastB (crashS L.S fa m) f) (dcOf (crashS L.S fa m) f) k').1 = gs ++ [gD (L0.S.size - 45) n P] := by
  have hs := h0.sz
  obtain ⟨z1, z2, z3, z4, z5⟩ := appR_zero hR (by omega)
  have hlo : L.S.loose = (List.range k).map fun j => (f + L0.nx + j, secL ep L0 n P j) := by rw [hF.w.lo, h0.lo, List.nil_append]
  obtain ⟨c, c1, c2⟩ := crash_now (fa := fa) (L := m) hlo
  obtain ⟨T, hT⟩ : ∃ T, T = crashS L.S fa m := ⟨_, rfl⟩
  have eS : T.size = L0.S.size := by rw [hT]; exact hF.w.size
  rw [← hT] at c1 c2 hch hno ⊢
  clear hT
  have c3 : ∀ j, (∀ i, i < k → j ≠ f + L0.nx + i) → T.now j = L0.S.now j := fun j hj => (c2 j hj).trans (hF.w.out j hj)
  have c4 : ∀ j, j < k → T.now (f + L0.nx + j) = copyF (L0.S.now (f + L0.nx + j)) 0 (c j) (secL ep L0 n P j) := fun j hj => by rw [c1 j hj, hF.w.fast, ← h0.nf]
  have hC : Cont f ep T L0.nx gs := h.keep hs.1 eS fun i hi => c3 _ fun j hj => by omega
  have hkn := hF.kn
  -- what is told of the slots behind
  have hw : ∀ j, j < k → chAt T f ep (L0.nx + j) → lastB T f (L0.nx + j) = decide (j + 1 = n) ∧ dcOf T f (L0.nx + j) = putDc (L0.S.size - 45) P j := fun j hj hc => by
    have hsec := secL_at (ep := ep) (n := n) (L := L0) (P := P) (z4 j (by omega))
    have hcc := hc
    unfold chAt at hcc
    rw [eS, ← Nat.add_assoc, c4 j hj, hsec] at hcc
    have hz := torn_ch hs.1 he1 he (by omega) (fun _ => hb j (by omega)) (by
      have := hr (L0.nx + j) (by omega) (by omega)
      rw [← Nat.add_assoc] at this
      exact this) hcc
    exact (wrote_slot (f := f) (T := T) (n := n) hs.1 he1 he (by omega) (hb j (by omega)) (z3 j (by omega)) (z4 j (by omega)) eS fun q hq => by
      rw [← Nat.add_assoc, c4 j hj, hsec]
      exact hz q hq).2
  have hnot : ∀ i, L0.nx + k ≤ i → i < cn → ¬ chAt T f ep i := fun i h1 h2 hc => by
    unfold chAt at hc
    rw [eS, c3 (f + i) fun j hj => by omega] at hc
    exact elder_no hs.1 he (by omega) (hr i (by omega) h2) (Nat.le_refl _) he1 hc
  have hge : L0.nx ≤ k' := by
    rcases Nat.lt_or_ge k' L0.nx with q | q
    · exact absurd (hC.ch k' q) (hno (by omega))
    · exact q
  obtain ⟨q, rfl⟩ : ∃ q, k' = L0.nx + q := ⟨k' - L0.nx, by omega⟩
  have hqk : q ≤ k := by
    rcases Nat.lt_or_ge k q with z | z
    · exact absurd (hch (L0.nx + k) (by omega)) (hnot _ (Nat.le_refl _) (by omega))
    · exact z
  have := dTo_run (x := putDc (L0.S.size - 45) P) z2 hC.rd q (by omega) fun j hj => hw j (by omega) (hch _ (by omega))
  rw [this]
  by_cases e : q = n
  · rw [if_pos e]; exact .inr rfl
  · rw [if_neg e]; exact .inl rfl
theorem gTo_mem (last : Nat → Bool) : ∀ k g, g ∈ (gTo last k).1 → g.length ≤ k
  | 0, g, h => by simp [gTo] at h
  | k + 1, g, h => by
    have ih := gTo_mem last k
    have hl := (gTo_len last k).2
    rw [gTo_succ] at h
    unfold gStep at h
    split at h
    · rcases List.mem_append.1 h with h | h
      · have := ih g h; omega
      · rw [List.mem_singleton.1 h, List.length_append]
        simp; omega
    · have := ih g h; omega
/-- What Read tells, as the document's groups. -/
theorem read_lgs {S : DS} {f cn ep : Nat} {w w' : World} {e : Ending} (hs : 64 ≤ S.size ∧ S.size ≤ 4096) (hcn : cn ≤ 1000000) (h : ReadP S f cn ep w e w') : ∃ k v, k ≤ cn ∧ (∀ i, i < k → chAt S f ep i) ∧ (k < cn → ¬ chAt S f ep k) ∧ e = .returned (.tuple #[v, .int .i64 0]) ∧ LGs w' v (dTo (lastB S f) (dcOf S f) k).1 ∧ Below w.heap.size w w' := by
  obtain ⟨⟨k, v, vs, X, hk, hch, hno, he, hown, hgr, hX⟩, hb⟩ := h
  refine ⟨k, v, hk, hch, hno, he, ?_, hb⟩
  have hd : (dTo (lastB S f) (dcOf S f) k).1 = (gTo (lastB S f) k).1.map (List.map (dcOf S f)) := by rw [← gTo_dTo]
  rw [hd]
  have hlen := (gTo_len (lastB S f) k).1
  have hvl : vs.length = (gTo (lastB S f) k).1.length := by have := hown.1; omega
  have hrow : ∀ (j : Nat) (u : Value) (l : List Dc), vs[j]? = some u → ((gTo (lastB S f) k).1.map (List.map (dcOf S f)))[j]? = some l → LRw w' u l := fun j u l a b => by
    rw [List.getElem?_map] at b
    cases hg : (gTo (lastB S f) k).1[j]? with
    | none => rw [hg] at b; cases b
    | some g =>
      rw [hg] at b
      simp only [Option.map_some, Option.some.injEq] at b
      subst b
      obtain ⟨b, c, ls, rfl, hx, h1, h2, hrow, hcell⟩ := hgr j u g a hg
      have hls := hrow.1
      have hgl : g.length ≤ 1000000 := by
        have hmem := List.mem_of_getElem? hg
        have := gTo_mem (lastB S f) k g hmem
        omega
      refine ⟨some ⟨b, 0, none⟩, c, by rw [List.length_map], by rw [List.length_map]; exact hgl, fun _ => ⟨b, 0, rfl, fun i y hy => ?_⟩⟩
      rw [List.getElem?_map] at hy
      cases hgi : g[i]? with
      | none => rw [hgi] at hy; cases hy
      | some s =>
        rw [hgi] at hy
        simp only [Option.map_some, Option.some.injEq] at hy
        subst hy
        have hil : i < ls.length := by rw [hls]; exact (List.getElem?_eq_some_iff.1 hgi).1
        have hl := List.getElem?_eq_getElem hil
        obtain ⟨hp, b', o', d', hv', hXb, hd1, hd2, hby⟩ := hrow.2 i s _ hgi hl
        obtain ⟨q1, q2⟩ := chCells_at hl
        rw [Nat.zero_add]
        refine ⟨?_, some ⟨b', o', none⟩, S.size - 20 - 25, d', fun j => S.now (f + s) (25 + j), ?_, hby, ?_⟩
        · rw [hcell _ _ q1, hp]; rfl
        · rw [hcell _ _ q2, hv']
        · unfold dcOf
          rw [show S.size - 20 - 25 = S.size - 45 by omega]
  obtain ⟨A, c, rfl⟩ := own_sl hown
  have h0 := hown
  refine ⟨A, c, vs, by rw [List.length_map], by rw [List.length_map]; exact hvl, by rw [List.length_map]; omega, fun hne => ?_, hrow⟩
  rw [List.length_map] at hne
  rcases hown.2 with ⟨_, h⟩ | ⟨q, cap, cur, e, _⟩
  · omega
  · injection e with e _ _
    subst e
    exact ⟨q, 0, rfl, fun j u hu => by
      rw [Nat.zero_add, ← hu]
      exact World.ownsRow.cellAt (w := w') (base := w.heap.size) (e := 38) (size := 1) h0 j (by have := (List.getElem?_eq_some_iff.1 hu).1; omega)⟩
end Go.Proofs.Ytdbfmllcapikkaa
/- Memory kept by its types, while a law gathers rows beside a log. -/
namespace Go.Proofs.Ytdbfmllcapikkaa
open Go.RowKit
set_option linter.unusedVariables false
set_option linter.unusedSimpArgs false

/-- Blocks of cells are kept, but those of bad types. -/
def KeepY (bad : TypeId → Prop) (W W' : World) : Prop := ∀ (k : Nat) (cs : Array Value) (t : TypeId), W.heap[k]? = some (.cells cs t (0, 0)) → ¬ bad t → W'.heap[k]? = some (.cells cs t (0, 0))
def badR (t : TypeId) : Prop := t = 47 ∨ t = 45
def badD (t : TypeId) : Prop := t = 78 ∨ t = 42 ∨ t = 111 ∨ t = 85
instance (t : TypeId) : Decidable (badR t) := by unfold badR; exact inferInstance
instance (t : TypeId) : Decidable (badD t) := by unfold badD; exact inferInstance
section
variable {bad : TypeId → Prop} {W W' W2 : World}
theorem KeepY.refl : KeepY bad W W := fun _ _ _ h _ => h
theorem KeepY.trans (h : KeepY bad W W') (k : KeepY bad W' W2) : KeepY bad W W2 := fun q cs t e b => k q cs t (h q cs t e b) b
theorem KeepY.below (l : Below W.heap.size W W') : KeepY bad W W' := fun k cs t e _ => (l.block k (Array.getElem?_eq_some_iff.1 e).1).trans e
theorem KeepY.grown {base e size n : Nat} {v : Value} {xs : List Value} (ho : W.ownsRow base e size v n xs) (he : bad e) (hg : W.grownBy W' v.ownBlock) : KeepY bad W W' := fun k cs t h b => (hg.block k (Array.getElem?_eq_some_iff.1 h).1 fun e2 => by
  obtain ⟨_, ds, hd⟩ := own_typed ho e2.symm
  refine b ?_
  rw [h] at hd
  injection hd with hd
  injection hd with _ hd
  rw [hd]; exact he).trans h
theorem KeepT.y {b : Nat} (h : KeepT b W W') (hb : ∃ cs, W.heap[b]? = some (.cells cs 85 (0, 0))) : KeepY badD W W' := fun k cs t e hn => by
  obtain ⟨ds, hb⟩ := hb
  refine h k cs t e (type_ne e hb fun q => hn (.inr (.inr (.inr q)))) (fun q => hn (.inl q)) (fun q => hn (.inr (.inl q))) fun q => hn (.inr (.inr (.inl q)))
theorem KeepY.brow {g n : Nat} {F : Nat → Nat} (h : KeepY bad W W') (r : BRow W g n F) (hb : ¬ bad 5) : BRow W' g n F := by
  obtain ⟨⟨c, hc, hx⟩, h2⟩ := r
  exact ⟨⟨c, h g c _ hc hb, hx⟩, h2⟩
theorem GrpR.keepY {n0 room n : Nat} {P : Nat → PutD} {v : Value} (h : GrpR n0 W room P n v) (k : KeepY bad W W') (h1 : ¬ bad 5) (h2 : ¬ bad 44) : GrpR n0 W' room P n v := by
  obtain ⟨ls, hl, ho, hp⟩ := h
  exact ⟨ls, hl, own_blockeq ho fun q cs _ e => k q cs _ e h2, hp.keep fun g m F r => k.brow r h1⟩
theorem GB.keepY {n0 : Nat} {gs : List (List Dc)} {g : List Dc} {vG vg : Value} (h : GB n0 gs g vG vg W) (k : KeepY badD W W') : GB n0 gs g vG vg W' :=
  h.kept (fun q cs e => k q cs _ e (by decide)) (fun q cs e => k q cs _ e (by decide))
end
/-- One change of a group that was made of puts. -/
theorem grp_at {n0 room n j : Nat} {W : World} {P : Nat → PutD} {v : Value} (h : GrpR n0 W room P n v) (hj : j < n) : ∃ g c b, v = .slice (some ⟨g, 0, none⟩) n c ∧ W.cell? ⟨g, j * 2, none⟩ = some (.int .i64 (P j).page) ∧ W.cell? ⟨g, j * 2 + 1, none⟩ = some (.slice (some ⟨b, 0, none⟩) (putN room (P j)) (putN room (P j))) ∧ BRow W b (putN room (P j)) (fun _ => (P j).b) ∧ ∃ cs, W.heap[g]? = some (.cells cs 44 (0, 0)) := by
  obtain ⟨ls, hl, ho, hp⟩ := h
  obtain ⟨k, rfl⟩ : ∃ k, n = k + 1 := ⟨n - 1, by omega⟩
  obtain ⟨g, c, rfl⟩ := ownsRow_succ ho
  have hx := List.getElem?_eq_getElem (l := ls) (i := j) (by omega)
  obtain ⟨h1, b, h2, h3, h4⟩ := hp j _ hx
  have hc := chCells_at hx
  have hlen := chCells_len ls
  have d : ∀ q u, (chCells ls)[q]? = some u → W.cell? ⟨g, q, none⟩ = some u := fun q u hu => by
    obtain ⟨hq, _⟩ := List.getElem?_eq_some_iff.1 hu
    rw [World.ownsRow.cellAt (w := W) (base := n0) (e := 44) (size := 2) ho q (by omega)]
    exact hu
  refine ⟨g, c, b, rfl, ?_, ?_, h4, (own_typed ho rfl).2⟩
  · rw [d _ _ hc.1, h1]
  · rw [d _ _ hc.2, h2]
theorem KeepY.cell {bad : TypeId → Prop} {W W' : World} {g i : Nat} {v : Value} {t : TypeId} (h : KeepY bad W W') (hg : ∃ cs, W.heap[g]? = some (.cells cs t (0, 0))) (ht : ¬ bad t) (hc : W.cell? ⟨g, i, none⟩ = some v) : W'.cell? ⟨g, i, none⟩ = some v := by
  obtain ⟨cs, hg⟩ := hg
  exact (World.cell?_of_block (w := W) (a := ⟨g, i, none⟩) ((h g cs t hg ht).trans hg.symm)).trans hc
/-- What is read of one change, in whatever world has kept it. -/
theorem grp_read {n0 room n j : Nat} {W : World} {P : Nat → PutD} {v : Value} (h : GrpR n0 W room P n v) (hj : j < n) : ∃ g c b m, v = .slice (some ⟨g, 0, none⟩) n c ∧ m = putN room (P j) ∧ ∀ (bad : TypeId → Prop) W', KeepY bad W W' → ¬ bad 44 → ¬ bad 5 →
    W'.cell? ⟨g, j * 2, none⟩ = some (.int .i64 (P j).page) ∧ W'.cell? ⟨g, j * 2 + 1, none⟩ = some (.slice (some ⟨b, 0, none⟩) m m) ∧ (convert 42 9 (.slice (some ⟨b, 0, none⟩) m m)).run Try.prog W' = .ok (.string (putDc room P j).2) W' := by
  obtain ⟨g, c, b, e, d0, d1, d2, d3⟩ := grp_at h hj
  refine ⟨g, c, b, _, e, rfl, fun bad W' k h1 h2 => ⟨k.cell d3 h1 d0, k.cell d3 h1 d1, conv_any _ (((k.brow d2 h2).bytes (o := 0) (m := putN room (P j)) (by omega)).congr fun q _ => rfl)⟩⟩
theorem GrpR.len {n0 room n : Nat} {W : World} {P : Nat → PutD} {v : Value} (h : GrpR n0 W room P n v) : ∃ A c, v = .slice A n c := by
  obtain ⟨ls, hl, ho, hp⟩ := h
  exact own_sl ho
theorem LSt.blk [Spare] {w0 w : World} {base b f cn ep : Nat} {M : DM} {L : LS} (h : LSt w0 base b f cn ep M L w) : ∃ cs, w.heap[b]? = some (.cells cs 85 (0, 0)) := ⟨_, h.2.1⟩
theorem gD_len (room n : Nat) (P : Nat → PutD) : (gD room n P).length = n := by unfold gD; simp
theorem gD_at {room n j : Nat} {P : Nat → PutD} (hj : j < n) : (gD room n P)[j]? = some (putDc room P j) := by
  unfold gD
  rw [List.getElem?_map, List.getElem?_range hj]
  rfl
/-- A row of the law's own that grows is nothing to a log. -/
theorem LSt.grown [Spare] {w0 W W' : World} {base b f cn ep n0 e size n : Nat} {M : DM} {L : LS} {v : Value} {xs : List Value} (h : LSt w0 base b f cn ep M L W) (ho : W.ownsRow n0 e size v n xs) (hn0 : base ≤ n0) (h1 : e ≠ 5) (h2 : ¬ badD e) (hg : W.grownBy W' v.ownBlock) : LSt w0 base b f cn ep M L W' := by
  obtain ⟨⟨u, hO⟩, hb, h3⟩ := h
  have lt : ∀ {k : Nat} {o : Obj}, W.heap[k]? = some o → k < W.heap.size := fun e => (Array.getElem?_eq_some_iff.1 e).1
  have kp : ∀ (k : Nat) (cs : Array Value) (t : TypeId), W.heap[k]? = some (.cells cs t (0, 0)) → t ≠ e → W'.heap[k]? = W.heap[k]? := fun k cs t hk hne => hg.block k (lt hk) fun e2 => by
    obtain ⟨_, ds, hd⟩ := own_typed ho e2.symm
    rw [hk] at hd
    injection hd with hd
    injection hd with _ hd
    exact hne hd
  have d := hO.d
  obtain ⟨V, ⟨c1, v1, _⟩, _⟩ := d.vf
  obtain ⟨U, ⟨c2, u1, _⟩, _⟩ := d.vn
  obtain ⟨vs, _, l2, _⟩ := d.lo
  have D' : Dsk W' base { M with vl := u } L.S := d.keep (kp _ _ _ d.hp fun q => h2 (.inl q.symm)) (kp _ _ _ v1 fun q => h2 (.inr (.inl q.symm))) (kp _ _ _ u1 fun q => h2 (.inr (.inl q.symm)))
    (fun k hk => by
      obtain ⟨_, ds, hd⟩ := own_typed l2 hk
      exact kp _ _ _ hd fun q => h2 (.inr (.inr (.inl q.symm)))) (fun g cs _ hb => (kp _ _ _ hb fun q => h1 q.symm).trans hb) hg.size
  exact ⟨⟨u, D', hO.b.grown hg hO.le (fun j hj => Nat.le_trans hn0 (ho.lt j hj).1), hO.z⟩, (kp _ _ _ hb fun q => h2 (.inr (.inr (.inr q.symm)))).trans hb, h3⟩
end Go.Proofs.Ytdbfmllcapikkaa
/- LogAgain: its plain part. -/
namespace Go.Proofs.Ytdbfmllcapikkaa
open Go.RowKit
set_option linter.unusedVariables false
set_option linter.unusedSimpArgs false

theorem NowInv.put {S : DS} (h : NowInv S) (a : Int) (n : Nat) (F : Nat → Nat) : NowInv (putS S a n F) := by
  unfold putS
  split
  · exact h
  · exact (h.keep _ _).strike
theorem NowInv.wr {S : DS} (h : NowInv S) (a sz : Nat) (sec : Nat → Nat → Nat) : ∀ k, NowInv (wrS a sz sec S k)
  | 0 => h
  | k + 1 => (NowInv.wr h a sz sec k).put _ _ _
theorem NowInv.flushD {S : DS} (h : NowInv S) : NowInv (flushD S) := by
  unfold Go.Proofs.Ytdbfmllcapikkaa.flushD
  split
  · exact h
  · split
    · exact h.strike
    · exact h.flush
theorem appT_inv {f cn ep n : Nat} {L : LS} {P : Nat → PutD} (h : NowInv L.S) : NowInv (appT f cn ep L n P).2.S := by
  unfold appT
  split
  · exact h
  · split
    · exact h.wr _ _ _ _
    · exact (h.wr _ _ _ _).flushD
theorem appT_loose {f cn ep n : Nat} {L : LS} {P : Nat → PutD} : (appT f cn ep L n P).2.S.loose.length ≤ L.S.loose.length + n := by
  unfold appT
  split
  · exact Nat.le_add_right _ _
  · split
    · rename_i k hk
      obtain ⟨_, h2, _⟩ := (List.find?_range_eq_some).1 hk
      have := wrS_len (f + L.nx) L.S.size (secL ep L n P) L.S (k + 1)
      have := List.mem_range.1 h2
      show (wrS _ _ _ _ _).loose.length ≤ _
      omega
    · have := wrS_len (f + L.nx) L.S.size (secL ep L n P) L.S n
      show (flushD _).loose.length ≤ _
      unfold flushD
      split
      · exact this
      · split
        · rw [strikeS_loose]; exact this
        · exact Nat.zero_le _
/-- The elder groups of LogAgain, ahead of the crash. -/
structure AgE (L : LS) : Prop where
  al : Alive 1 10 L
  z : ∀ i, L.nx ≤ i → i < 10 → ∀ k, k < 64 → L.S.now (1 + i) k = 0
  e : ∀ i, i < L.nx → Elder 64 8 i (L.S.now (1 + i))
structure AgA (L : LS) : Prop where
  size : L.S.size = 64
  N : L.S.N = 12
  inv : NowInv L.S
  lo : L.S.loose.length ≤ 8
  nx : L.nx ≤ 10
  st : AgE L ∨ ∃ L0 n P k, AgE L0 ∧ L0.S.size = 64 ∧ n ≤ 8 ∧ (∀ j, j < n → (P j).b < 256) ∧ appR 10 L0 n P = 0 ∧ Fell 1 7 L0 n P L k
theorem secL_as {ep n j : Nat} {L : LS} {P : Nat → PutD} (hs : L.S.size = 64) (hp : putN (L.S.size - 45) (P j) = L.S.size - 45) : secL ep L n P j = chSec 64 ep (L.nx + j) (P j).page.toNat (decide (j + 1 = n)) (fun _ => (P j).b) := by
  rw [secL_at hp, hs]
theorem AgA.step {L : LS} {n : Nat} {P : Nat → PutD} (h : AgA L) (hn : n ≤ 8) (hb : ∀ j, j < n → (P j).b < 256) : AgA (appT 1 10 7 L n P).2 := by
  rcases h.st with hE | ⟨L0, n0, P0, k, a1, a2, a3, a4, a5, a6⟩
  · have hlo := appT_loose (f := 1) (cn := 10) (ep := 7) (n := n) (L := L) (P := P)
    rw [hE.al.lo] at hlo
    have hlo8 : (appT 1 10 7 L n P).2.S.loose.length ≤ 8 := Nat.le_trans hlo (by simp; omega)
    rcases app_cases (ep := 7) (n := n) (P := P) hE.al with ⟨_, _, e⟩ | ⟨h0, _, al, nx, sz, eN, at_, out⟩ | ⟨h0, _, k, fl⟩
    · rw [e]; exact h
    · obtain ⟨z1, z2, z3, z4, z5⟩ := appR_zero h0 (by rw [h.size]; omega)
      refine ⟨sz.trans h.size, eN.trans h.N, appT_inv h.inv, hlo8, by rw [nx]; exact z5, .inl ⟨al, fun i h1 h2 q hq => ?_, fun i hi => ?_⟩⟩
      · rw [nx] at h1
        rw [out (1 + i) fun j hj => by omega]
        exact hE.z i (by omega) h2 q hq
      · by_cases q : i < L.nx
        · rw [out (1 + i) fun j hj => by omega]; exact hE.e i q
        · obtain ⟨j, rfl⟩ : ∃ j, i = L.nx + j := ⟨i - L.nx, by omega⟩
          rw [← Nat.add_assoc, at_ j (by omega), secL_as h.size (z4 j (by omega))]
          exact elder_sec (by omega) (by omega) (by omega) (by omega) (by omega) fun _ => hb j (by omega)
    · have w := fl.w
      exact ⟨w.size.trans h.size, w.N.trans h.N, appT_inv h.inv, hlo8, by
        rw [fell_nx h0 fl.dd]; exact h.nx, .inr ⟨L, n, P, k, hE, h.size, hn, hb, h0, fl⟩⟩
  · rw [app_dead a6.dd]; exact h
/-- Behind the crash no slot is one of the newer epoch. -/
theorem AgA.crash {L : LS} (h : AgA L) (fa : Nat → Int) (m : Nat) : Up (crashS L.S fa m) ∧ (crashS L.S fa m).size = 64 ∧ (crashS L.S fa m).N = 12 ∧ (∀ j, (crashS L.S fa m).now j = (crashS L.S fa m).fast j) ∧ Rest 1 10 (fun i F => ¬ isCh F 44 i 8) (crashS L.S fa m) 0 := by
  refine ⟨⟨rfl, rfl⟩, h.size, h.N, h.inv.crash fa m, fun i _ hi => ?_⟩
  rcases h.st with hE | ⟨L0, n0, P0, k, a1, a2, a3, a4, a5, a6⟩
  · rw [(crash_quiet hE.al.lo).1]
    by_cases q : i < L.nx
    · exact elder_no (sz := 64) (by omega) (by omega) (by omega) (hE.e i q) (Nat.le_refl _) (by omega)
    · exact elder_no (sz := 64) (ep := 8) (by omega) (by omega) (by omega) (.inl (hE.z i (by omega) hi)) (Nat.le_refl _) (by omega)
  · obtain ⟨z1, z2, z3, z4, z5⟩ := appR_zero a5 (by rw [a2]; omega)
    have hlo : L.S.loose = (List.range k).map fun j => (1 + L0.nx + j, secL 7 L0 n0 P0 j) := by rw [a6.w.lo, a1.al.lo, List.nil_append]
    obtain ⟨c, c1, c2⟩ := crash_now (fa := fa) (L := m) hlo
    have hkn := a6.kn
    by_cases q : i < L0.nx
    · rw [c2 (1 + i) fun j hj => by omega, a6.w.out (1 + i) fun j hj => by omega]
      exact elder_no (sz := 64) (by omega) (by omega) (by omega) (a1.e i q) (Nat.le_refl _) (by omega)
    · obtain ⟨j, rfl⟩ : ∃ j, i = L0.nx + j := ⟨i - L0.nx, by omega⟩
      by_cases hj : j < k
      · rw [← Nat.add_assoc, c1 j hj, a6.w.fast, ← a1.al.nf, secL_as a2 (z4 j (by omega))]
        refine torn_elder (sz := 64) (by omega) (by omega) (by omega) (by omega) (by omega) (fun _ => a4 j (by omega)) fun q hq => ?_
        have := a1.z (L0.nx + j) (by omega) (by omega) q hq
        rw [← Nat.add_assoc] at this
        exact this
      · rw [c2 (1 + (L0.nx + j)) fun i hi => by omega, a6.w.out (1 + (L0.nx + j)) fun i hi => by omega]
        exact elder_no (sz := 64) (ep := 8) (by omega) (by omega) (by omega) (.inl (a1.z _ (by omega) (by omega))) (Nat.le_refl _) (by omega)
/-- The newer groups. -/
structure AgB (f cn ep : Nat) (L : LS) (gs : List (List Dc)) : Prop where
  al : Alive f cn L
  up : Up L.S
  size : L.S.size = 64
  N : L.S.N = 12
  ct : Cont f ep L.S L.nx gs
  rs : Rest f cn (fun i F => ¬ isCh F (L.S.size - 20) i ep) L.S L.nx
theorem AgB.step {f cn ep : Nat} {L : LS} {gs : List (List Dc)} {n : Nat} {P : Nat → PutD} (h : AgB f cn ep L gs) (he1 : 1 ≤ ep) (he : ep ≤ 1099511627776) (hc : cn ≤ 1048576) (hb : ∀ j, j < n → (P j).b < 256) :
    ((appT f cn ep L n P).1 ≠ 0 ∧ AgB f cn ep (appT f cn ep L n P).2 gs) ∨ ((appT f cn ep L n P).1 = 0 ∧ AgB f cn ep (appT f cn ep L n P).2 (gs ++ [gD 19 n P])) := by
  have k := appT_keepsUp (ep := ep) (n := n) (P := P) h.up (by rw [h.size]; omega) h.al.N
  rcases app_cases (ep := ep) (n := n) (P := P) h.al with ⟨e0, _, e⟩ | ⟨h0, e0, al, nx, sz, eN, at_, out⟩ | ⟨h0, e0, _⟩
  · rw [e]; exact .inl ⟨e0, h⟩
  · refine .inr ⟨e0, al, k.1, k.2.2.1.trans h.size, k.2.1.trans h.N, ?_, ?_⟩
    · have := h.ct.app (cn := cn) (T := (appT f cn ep L n P).2.S) (by rw [h.size]; omega) he1 he hc hb h0 sz nx (fun j hj q _ => by rw [at_ j hj]) out
      rw [h.size] at this
      exact this
    · have := h.rs.app (T := (appT f cn ep L n P).2.S) nx out
      rw [sz]
      exact this
  · rw [appT_up h.up (by rw [h.size]; omega) h.al.N h0] at e0
    cases e0
end Go.Proofs.Ytdbfmllcapikkaa
/- LogAgain: the walk of its law. -/
namespace Go.Proofs.Ytdbfmllcapikkaa
open Go.RowKit
set_option linter.unusedVariables false
set_option linter.unusedSimpArgs false

theorem agA_first {n : Int} {S : DS} (h : S = newS 12 64) : AgA ⟨armS S n, 0, false⟩ := by
  subst h
  exact ⟨rfl, rfl, fun _ => rfl, Nat.zero_le _, Nat.zero_le _, .inl ⟨⟨rfl, rfl, rfl, fun _ => rfl, Nat.zero_le _, ⟨by show 64 ≤ 64; omega, by show 64 ≤ 4096; omega⟩, by show 1 + 10 ≤ 12; omega⟩, fun _ _ _ _ _ => rfl, fun i hi => absurd hi (by show ¬ i < 0; omega)⟩⟩
set_option maxRecDepth 100000 in
set_option maxHeartbeats 16000000 in
theorem logAgain_gen [Spare] (A : Option Addr) (n c : Nat) (G : Nat → SlD) (Q : Nat → Nat → PutD) (A2 : Option Addr) (n2 c2 : Nat) (G2 : Nat → SlD) (Q2 : Nat → Nat → PutD) (AF : Option Addr) (nF cF : Nat) (fa : Nat → Int) (w : World) (hG : PutsG w A n G Q) (hG2 : PutsG w A2 n2 G2 Q2) (hI : Ints w AF nF fa) (hE : ∀ g, w.heap.size ≤ g → Spare.ok g) :
    Calls Try.prog 8 #[.slice A n c, .slice A2 n2 c2, .slice AF nF cF] w fun e w' => e = .returned (.bool true) ∧ Below w.heap.size w w' := by
  have hn := hG.1.1
  have hn2 := hG2.1.1
  have hnF := hI.1
  have HG := Lib.hid hG
  have HG2 := Lib.hid hG2
  have HI := Lib.hid hI
  have KL := Lib.hid (light_any 0 0 0 0 A n c G w hG.1)
  have KL2 := Lib.hid (show ∀ W, Below w.heap.size w W → Calls Try.prog 9 #[.agg #[.int .u8 0, .int .i64 0, .int .i64 0, .int .i64 0, .slice A2 n2 c2]] W fun e w' => e = .returned (.bool (lightGB n2 G2)) ∧ Below W.heap.size W w' from fun W l => light_any 0 0 0 0 A2 n2 c2 G2 W (hG2.below l).1)
  clear hG hG2 hI
  by_cases hl : lightGB n G = true
  case neg =>
    have hl2 : lightGB n G = false := by simpa using hl
    rw [hl2] at KL
    go_enter Try.func8, Try.ntmps8
    go_wp2_with (go_at_call 9; refine KL.out.mono ?_; rintro e w1 ⟨rfl, l1⟩)
    go_ret
    exact ⟨rfl, l1⟩
  rw [hl] at KL
  have HL := Lib.hid (of_decide_eq_true hl)
  clear hl
  by_cases hl : lightGB n2 G2 = true
  case neg =>
    have hl2 : lightGB n2 G2 = false := by simpa using hl
    rw [hl2] at KL2
    clear hl hl2
    go_enter Try.func8, Try.ntmps8
    go_wp2_with fail
    refine KL.out.mono ?_
    rintro e w1 ⟨rfl, l1⟩
    have L1 := Lib.hid l1
    clear l1
    go_wp2_with (go_at_call 9; refine (KL2.out _ L1.out).mono ?_; rintro e w2 ⟨rfl, l2⟩)
    go_ret
    exact ⟨rfl, L1.out.trans (l2.mono L1.out.size)⟩
  rw [hl] at KL2
  have HL2 := Lib.hid (of_decide_eq_true hl)
  clear hl
  by_cases h60 : 60 < nF
  · have hI60 : (60 : Int) < (nF : Int) := by omega
    go_enter Try.func8, Try.ntmps8
    go_wp2_with fail
    refine KL.out.mono ?_
    rintro e w1 ⟨rfl, l1⟩
    have L1 := Lib.hid l1
    clear l1
    go_wp2_with (go_at_call 9; refine (KL2.out _ L1.out).mono ?_; rintro e w2 ⟨rfl, l2⟩)
    go_ret
    exact ⟨rfl, L1.out.trans (l2.mono L1.out.size)⟩
  have hI60 : ¬ (60 : Int) < (nF : Int) := by omega
  go_enter Try.func8, Try.ntmps8
  go_wp2_with fail
  refine KL.out.mono ?_
  rintro e w0 ⟨rfl, l0⟩
  have L0 := Lib.hid l0
  clear l0
  go_wp2_with fail
  refine (KL2.out _ L0.out).mono ?_
  rintro e w1 ⟨rfl, l1⟩
  have L1 := Lib.hid (L0.out.trans (l1.mono L0.out.size))
  clear l1
  go_wp2_with fail
  refine (new_ok 12 64 w1 (by omega) (by omega) (fun g hg => hE g (Nat.le_trans L1.out.size hg))).mono ?_
  rintro e w2 ⟨M0, rfl, d2, l2⟩
  have O2 := Lib.hid (show On w1 w1.heap.size M0 (newS 12 64) w2 from ⟨d2, l2, Nat.le_refl _⟩)
  clear d2 l2
  go_wp2_with fail
  refine (lst_start (f := 1) (cn := 10) (ep := 7) O2.out (by omega) (by omega) (by omega) (by decide) (by omega) (by omega)).mono ?_
  rintro e w3 ⟨b, rfl, s3, l3, hb3⟩
  have S3 := Lib.hid s3
  clear s3 l3
  go_wp2_with fail
  refine (lst_arm (nF : Nat) S3.out (by omega)).mono ?_
  rintro e w4 ⟨rfl, s4, k4⟩
  have S4 := Lib.hid s4
  clear s4 k4
  go_wp2
  go_loopw [10] (fun i wr => ∃ (k : Nat) (L : LS), k ≤ n ∧ i = .int .i64 (k : Nat) ∧ AgA L ∧ LSt w1 w1.heap.size b 1 10 7 M0 L wr) (fun i _ => n - (intOf i).toNat)
  case atStart => exact ⟨0, _, Nat.zero_le _, rfl, agA_first rfl, S4.out⟩
  case round =>
    obtain ⟨k, L, hk, rfl, hok, hst⟩ := hrel
    obtain ⟨wo, hwo⟩ : ∃ wo, wo = wr := ⟨_, rfl⟩
    subst hwo
    have HOk := Lib.hid hok
    have HS := Lib.hid hst
    clear hok hst
    by_cases hlt : k < n
    · have HG1 := Lib.hid (HG.out.below (L1.out.trans (HS.out.from0.mono L1.out.size)))
      obtain ⟨bb, o, rfl, hc⟩ := HG1.out.1.2.2 (by omega)
      have ck := hc k hlt
      have hgn := HL.out.2 k hlt
      have hP := HG1.out.2 k hlt
      rcases hGk : G k with ⟨Ak, nk, dk⟩
      rw [hGk] at ck hgn hP
      dsimp only at ck hgn hP
      have HPk := Lib.hid hP
      clear hc hGk hP
      obtain ⟨r, hr⟩ : ∃ r, r = (appT 1 10 7 L nk (Q k)).1 := ⟨_, rfl⟩
      have HN := Lib.hid (HOk.out.step (n := nk) (P := Q k) hgn HPk.out.2.1)
      have KA := Lib.hid (show ∀ (w2 : World) (v : Value), Below wo.heap.size wo w2 → GrpR wo.heap.size w2 19 (Q k) nk v → Calls Try.prog 17 #[.pointer (some ⟨b, 0, none⟩), v] w2 fun e w' => e = .returned (.int .i64 r) ∧ LSt w1 w1.heap.size b 1 10 7 M0 (appT 1 10 7 L nk (Q k)).2 w' ∧ KeepT b w2 w' from hr ▸ fun w2 v l hg => app_step (n := nk) (P := Q k) HS.out (by omega) (by have := HOk.out.lo; omega) (by omega) (by omega) HOk.out.nx (by omega) (by omega) l (by rw [HOk.out.size]; exact hg))
      have KG := Lib.hid (show Calls Try.prog 16 #[.slice Ak nk dk, .int .i64 19] wo fun e w' => (∃ v, e = .returned v ∧ GrpR wo.heap.size w' 19 (Q k) nk v) ∧ Below wo.heap.size wo w' from group_any Ak nk dk (Q k) 19 wo (by omega) (by omega) HPk.out)
      clear hr
      go_wp2_with (first
        | (go_at_call 16; refine KG.out.mono ?_; rintro e W5 ⟨⟨v5, rfl, g5⟩, l5⟩; have L5 := Lib.hid l5; have G5 := Lib.hid g5; clear l5 g5)
        | (go_at_call 17; refine (KA.out _ _ L5.out G5.out).mono ?_; rintro e W6 ⟨rfl, s6, k6⟩; have S6 := Lib.hid s6; clear s6 k6))
      go_roundw
      case rel => exact ⟨k + 1, _, by omega, by go_num, HN.out, S6.out⟩
      case measure => simp [intOf]; omega
    · obtain rfl : k = n := by omega
      have KC := Lib.hid (lst_crash (A := AF) (n := nF) (c := cF) (fa := fa) HS.out (HI.out.below L1.out (Nat.le_refl _)) (Nat.le_refl _))
      obtain ⟨L5, hL5⟩ : ∃ L5 : LS, L5 = ⟨crashS L.S fa nF, L.nx, L.dead⟩ := ⟨_, rfl⟩
      rw [← hL5] at KC
      have U5 : Up L5.S ∧ L5.S.size = 64 ∧ L5.S.N = 12 ∧ (∀ j, L5.S.now j = L5.S.fast j) ∧ L5.S.loose = [] ∧ Rest 1 10 (fun i F => ¬ isCh F 44 i 8) L5.S 0 := by
        rw [hL5]
        obtain ⟨u1, u2, u3, u4, u5⟩ := HOk.out.crash fa nF
        exact ⟨u1, u2, u3, u4, rfl, u5⟩
      have HU := Lib.hid U5
      have hB0 : AgB 1 10 8 ⟨L5.S, 0, false⟩ [] := ⟨⟨rfl, U5.1.d, U5.2.2.2.2.1, U5.2.2.2.1, Nat.zero_le _, by show 64 ≤ L5.S.size ∧ L5.S.size ≤ 4096; omega, by show 1 + 10 ≤ L5.S.N; omega⟩, U5.1, U5.2.1, U5.2.2.1, Cont.zero _ _ _, by show Rest 1 10 (fun i F => ¬ isCh F (L5.S.size - 20) i 8) L5.S 0; rw [U5.2.1]; exact U5.2.2.2.2.2⟩
      have HB0 := Lib.hid hB0
      clear U5 hB0 hL5
      go_wp2_with fail
      refine KC.out.mono ?_
      rintro e w5 ⟨rfl, s5, _⟩
      obtain ⟨⟨v5, O5⟩, _⟩ := s5
      have H5 := Lib.hid O5
      clear O5
      go_wp2_with fail
      refine (lst_start (f := 1) (cn := 10) (ep := 8) H5.out (by omega) (by omega) (by omega) (by rw [HU.out.2.2.1]; decide) (by omega) (by omega)).mono ?_
      rintro e w6 ⟨b6, rfl, s6, l6, hb6⟩
      have S6 := Lib.hid (show LSt w1 w1.heap.size b6 1 10 8 M0 ⟨L5.S, 0, false⟩ w6 from s6)
      clear s6 l6
      go_wp2_with fail
      refine (lst_read 1 10 8 S6.out HU.out.1.d (by omega) (by omega) (by show 1 + 10 ≤ L5.S.N; rw [HU.out.2.2.1]; omega) (by omega) (by omega)).mono ?_
      intro e w7 hr7
      have l7 := hr7.2
      obtain ⟨A7, c7, rfl⟩ := read_none hr7 (by
        have := HB0.out.rs 0 (Nat.le_refl _) (by omega)
        exact this)
      have S7 := Lib.hid (S6.out.below l7)
      clear hr7 l7
      obtain ⟨i1, hi1, hy0, hy1, hy2⟩ := infoPartsR infoDcs
      have HIn := Lib.hid (And.intro hi1 (And.intro hy0 (And.intro hy1 hy2)))
      clear hi1 hy0 hy1 hy2
      go_wp2
      go_loopw [15, 16] (fun u i wr => ∃ (k : Nat) (L : LS) (gs : List (List Dc)), k ≤ n2 ∧ i = .int .i64 (k : Nat) ∧ AgB 1 10 8 L gs ∧ gs.length ≤ k ∧ GB w1.heap.size gs [] u (.slice none 0 0) wr ∧ LSt w1 w1.heap.size b6 1 10 8 M0 L wr) (fun u i _ => n2 - (intOf i).toNat)
      case atStart => exact ⟨0, _, [], Nat.zero_le _, rfl, HB0.out, Nat.le_refl _, GB.nil _ _, S7.out⟩
      case round =>
        obtain ⟨k2, L, gs, hk2, rfl, hok, hgl, hgb, hst⟩ := hrel
        obtain ⟨wi, hwi⟩ : ∃ wi, wi = wr := ⟨_, rfl⟩
        subst hwi
        have HOk2 := Lib.hid hok
        have HS2 := Lib.hid hst
        have HGb := Lib.hid hgb
        clear hok hst hgb
        by_cases hlt2 : k2 < n2
        · have HG1 := Lib.hid (HG2.out.below (L1.out.trans (HS2.out.from0.mono L1.out.size)))
          obtain ⟨bb, o, rfl, hc⟩ := HG1.out.1.2.2 (by omega)
          have ck := hc k2 hlt2
          have hgn := HL2.out.2 k2 hlt2
          have hP := HG1.out.2 k2 hlt2
          rcases hGk : G2 k2 with ⟨Ak, nk, dk⟩
          rw [hGk] at ck hgn hP
          dsimp only at ck hgn hP
          have HPk := Lib.hid hP
          clear hc hGk hP
          obtain ⟨P, hP⟩ : ∃ P, P = Q2 k2 := ⟨_, rfl⟩
          rw [← hP] at HPk
          clear hP
          obtain ⟨r, hr⟩ : ∃ r, r = (appT 1 10 8 L nk P).1 := ⟨_, rfl⟩
          obtain ⟨L', hL'⟩ : ∃ L', L' = (appT 1 10 8 L nk P).2 := ⟨_, rfl⟩
          have HN := Lib.hid (HOk2.out.step (n := nk) (P := P) (by omega) (by omega) (by omega) HPk.out.2.1)
          rw [← hr, ← hL'] at HN
          have KA := Lib.hid (show ∀ (w2 : World) (v : Value), Below wi.heap.size wi w2 → GrpR wi.heap.size w2 19 P nk v → Calls Try.prog 17 #[.pointer (some ⟨b6, 0, none⟩), v] w2 fun e w' => e = .returned (.int .i64 r) ∧ LSt w1 w1.heap.size b6 1 10 8 M0 L' w' ∧ KeepT b6 w2 w' from hr ▸ hL' ▸ fun w2 v l hg => app_step (n := nk) (P := P) HS2.out (by omega) (by rw [HOk2.out.al.lo]; show 0 + nk < 1000000; omega) (by omega) (by omega) HOk2.out.al.nx (by omega) (by omega) l (by rw [HOk2.out.size]; exact hg))
          have KG := Lib.hid (show Calls Try.prog 16 #[.slice Ak nk dk, .int .i64 19] wi fun e w' => (∃ v, e = .returned v ∧ GrpR wi.heap.size w' 19 P nk v) ∧ Below wi.heap.size wi w' from group_any Ak nk dk P 19 wi (by omega) (by omega) HPk.out)
          clear hr hL'
          rcases HN.out with ⟨hne, hB'⟩ | ⟨he, hB'⟩
          · have hq : (r != 0) = true := by simpa using hne
            have HB' := Lib.hid hB'
            clear hne hB' HN
            go_wp2_with (first
              | (go_at_call 16; refine KG.out.mono ?_; rintro e W5 ⟨⟨v5, rfl, g5⟩, l5⟩; have L5' := Lib.hid l5; have G5 := Lib.hid g5; clear l5 g5)
              | (go_at_call 17; refine (KA.out _ _ L5'.out G5.out).mono ?_; rintro e W6 ⟨rfl, s6, k6⟩; have S6' := Lib.hid s6; have K6 := Lib.hid k6; clear s6 k6))
            go_roundw
            case rel => exact ⟨k2 + 1, L', gs, by omega, by go_num, HB'.out, by omega, (HGb.out.below L5'.out).keepY (K6.out.y (HS2.out.below L5'.out).blk), S6'.out⟩
            case measure => simp [intOf]; omega
          · have hq : (r != 0) = false := by simp [he]
            have HB' := Lib.hid hB'
            clear he hB' HN
            go_wp2_with (first
              | (go_at_call 16; refine KG.out.mono ?_; rintro e W5 ⟨⟨v5, rfl, g5⟩, l5⟩; obtain ⟨A17, c17, rfl⟩ := g5.len; have L5' := Lib.hid l5; have G5 := Lib.hid g5; clear l5 g5)
              | (go_at_call 17; refine (KA.out _ _ L5'.out G5.out).mono ?_; rintro e W6 ⟨rfl, s6, k6⟩; have S6' := Lib.hid s6; have K6 := Lib.hid k6; clear s6 k6))
            have HK6 := Lib.hid (K6.out.y (HS2.out.below L5'.out).blk)
            have GB6 := Lib.hid ((HGb.out.below L5'.out).keepY HK6.out)
            have GR6 := Lib.hid (G5.out.keepY HK6.out (by decide) (by decide))
            go_loopw [18, 19] (fun u i W => ∃ j : Nat, j ≤ nk ∧ i = .int .i64 j ∧ GB w1.heap.size gs ((gD 19 nk P).take j) u15 u W ∧ GrpR wi.heap.size W 19 P nk (.slice A17 nk c17) ∧ LSt w1 w1.heap.size b6 1 10 8 M0 L' W) (fun u i _ => nk - (intOf i).toNat)
            case atStart => exact ⟨0, Nat.zero_le _, rfl, GB6.out, GR6.out, S6'.out⟩
            case round =>
              obtain ⟨j, hj, rfl, hgb, hgr, hst⟩ := hrel
              obtain ⟨wj, hwj⟩ : ∃ wj, wj = wr := ⟨_, rfl⟩
              subst hwj
              have HGj := Lib.hid hgb
              have HRj := Lib.hid hgr
              have HSj := Lib.hid hst
              have hsz : w1.heap.size ≤ wj.heap.size := hst.from0.size
              clear hgb hgr hst
              have hlen : ((gD 19 nk P).take j).length = j := take_len' (by rw [gD_len]; omega)
              by_cases hjl : j < nk
              · obtain ⟨g17, c17', b17, m2, e17, hm2, KC'⟩ := grp_read HRj.out hjl
                injection e17 with e17 e18 e19
                subst e17 e19
                clear e18 hm2
                obtain ⟨xp, hxp⟩ : ∃ x, x = (P j).page := ⟨_, rfl⟩
                obtain ⟨xs, hxs⟩ : ∃ s, s = (putDc 19 P j).2 := ⟨_, rfl⟩
                have HX := Lib.hid (show (gD 19 nk P)[j]? = some (xp, xs) by rw [gD_at hjl, hxp, hxs]; rfl)
                rw [← hxp, ← hxs] at KC'
                have KC := Lib.hid (show ∀ W, KeepY badR wj W → W.cell? ⟨g17, j * 2, none⟩ = some (.int .i64 xp) ∧ W.cell? ⟨g17, j * 2 + 1, none⟩ = some (.slice (some ⟨b17, 0, none⟩) m2 m2) ∧ (convert 42 9 (.slice (some ⟨b17, 0, none⟩) m2 m2)).run Try.prog W = .ok (.string xs) W from fun W k => KC' badR W k (by decide) (by decide))
                clear hxp hxs KC'
                obtain ⟨s1, s2, s3⟩ := KC.out _ KeepY.refl
                have hown := HGj.out.own.2
                rw [hlen] at hown
                obtain ⟨A7', c7', rfl⟩ := own_sl hown
                have l3 : Below wj.heap.size wj (wj.drew.alloc (.cells #[.int .i64 xp, .string xs] 47)) := ((Below.refl _ _).drew).alloc (Nat.le_refl _) _
                have L3 := Lib.hid l3
                have HO3 := Lib.hid (own_belowR hown l3)
                have HB3 := Lib.hid (HGj.out.below l3)
                have HS3 := Lib.hid (HSj.out.below l3)
                have HR3 := Lib.hid (HRj.out.keepY (bad := badR) (KeepY.below l3) (by decide) (by decide))
                have HLen := Lib.hid hlen
                clear hown hlen l3
                go_wp2
                go_region_held_law (fun W => W.cell? ⟨g17, j * 2, none⟩ = some (.int .i64 xp) ∧ W.cell? ⟨g17, j * 2 + 1, none⟩ = some (.slice (some ⟨b17, 0, none⟩) m2 m2) ∧ (convert 42 9 (.slice (some ⟨b17, 0, none⟩) m2 m2)).run Try.prog W = .ok (.string xs) W)
                  (first | exact KD.out | exact KC.out _ (KeepY.below L3.out) | exact KC.out _ (KeepY.below (Below.refl _ _).drew))
                  (first
                  | (refine step_append_dc (by rfl) _ _ 45 rfl Try.underlying45 infoDc w1.heap.size (.slice A7' j c7') j (dcCells ((gD 19 nk P).take j)) rfl HO3.out ⟨wj.heap.size, 0, none⟩ (.int .i64 xp) (.string xs) rfl rfl rfl (cells_newR2 _ _ _ _) (by omega) (Nat.le_trans hsz (by simp)) ?_
                     intro v2 w9 HO2 HG2' HA2
                     have HY : Hid (KeepY badR (wj.drew.alloc (.cells #[.int .i64 xp, .string xs] 47)) w9) := Lib.hid (KeepY.grown HO3.out (by decide) HG2'.out)
                     have HS9 : Hid (LSt w1 w1.heap.size b6 1 10 8 M0 L' w9) := Lib.hid (HS3.out.grown HO3.out (Nat.le_refl _) (by decide) (by decide) HG2'.out)
                     have HR9 : Hid (GrpR wi.heap.size w9 19 P nk (.slice (some ⟨g17, 0, none⟩) nk c17)) := Lib.hid (HR3.out.keepY HY.out (by decide) (by decide))
                     have KD := Lib.hid (KC.out _ ((KeepY.below L3.out).trans HY.out))))
                go_wp2
                go_roundw
                case rel =>
                  refine ⟨j + 1, by omega, by go_num, ?_, HR9.out, HS9.out⟩
                  rw [take_snoc HX.out]
                  exact HB3.out.push (x := (xp, xs)) (by rw [HLen.out]; omega) (by rw [HLen.out]; exact HO2.out) HG2'.out HA2.out
                case measure => simp [intOf]; omega
              · obtain rfl : j = nk := by omega
                have HGl := Lib.hid (show GB w1.heap.size gs (gD 19 j P) u15 u18 wj by
                  have := HGj.out
                  rw [List.take_of_length_le (by rw [gD_len]; omega)] at this
                  exact this)
                obtain ⟨⟨A5, c5, h5⟩, ⟨A7', c7', h7⟩, hl1, hl2⟩ := HGl.out.len
                rw [gD_len] at h7
                obtain ⟨gn, hgn'⟩ : ∃ m, m = gs.length := ⟨_, rfl⟩
                rw [← hgn'] at h5 hl1 hgl
                subst h5 h7
                obtain ⟨vs, hvs⟩ := HGl.out.own.1
                rw [← hgn'] at hvs
                have HV := Lib.hid hvs
                have HLen := Lib.hid hgn'
                clear hvs hgn' hlen hl2
                have l3 : Below wj.heap.size wj (wj.alloc (.cells #[.slice A7' j c7'] 45)) := (Below.refl _ _).alloc (Nat.le_refl _) _
                have L3 := Lib.hid l3
                have HB3 := Lib.hid (HGl.out.below l3)
                have HS3 := Lib.hid (HSj.out.below l3)
                have HV3 := Lib.hid (own_belowR HV.out l3)
                clear l3
                go_wp2_with (at_builtin; refine wpList_append_own_at _ rfl _ _ 37 rfl w1.heap.size 45 i1 (.slice none 0 0) 1 24 Try.underlying37 HIn.out.1 HIn.out.2.1 HIn.out.2.2.1 HIn.out.2.2.2 rfl (by decide) _ _ _ rfl HV3.out ⟨wj.heap.size, 0, none⟩ 1 1 [.slice A7' j c7'] rfl rfl (cells_newR1 _ _ _) (by simp [Value.oneCell']) (by unfold maxLen; omega) (by omega) (by simp; omega) ?_; intro v2 w9 hown hgr _ hat; have HS9 : Hid (LSt w1 w1.heap.size b6 1 10 8 M0 L' w9) := Lib.hid (HS3.out.grown HV3.out (Nat.le_refl _) (by decide) (by decide) hgr); have HQ := Lib.hid (And.intro hown hgr); clear hown hgr hat)
                go_roundw
                case rel =>
                  refine ⟨k2 + 1, L', gs ++ [gD 19 j P], by omega, by go_num, HB'.out, by rw [List.length_append, ← HLen.out]; simp; omega, ?_, HS9.out⟩
                  exact HB3.out.close (by rw [← HLen.out]; have := HL2.out.1; omega) (fun vs' hv => by
                    rw [← HLen.out] at hv ⊢
                    rw [own_same hv HV3.out]
                    exact HQ.out.1) HQ.out.2
                case measure => simp [intOf]; omega
        · obtain rfl : k2 = n2 := by omega
          obtain ⟨A5, c5, h5⟩ := HGb.out.len.1
          have hu := HOk2.out.up.d
          have HD := Lib.hid (lst_read 1 10 8 HS2.out hu (by omega) (by omega) (by rw [HOk2.out.N]; omega) (by omega) (by omega))
          clear hu
          subst h5
          go_wp2_with fail
          refine HD.out.mono ?_
          intro e w8 hr8
          obtain ⟨kr, vr, hkr, hchr, hnor, rfl, hlgs, l8⟩ := read_lgs (by rw [HOk2.out.size]; omega) (by omega) hr8
          rw [read_cont HOk2.out.ct HOk2.out.rs HOk2.out.al.nx hkr hchr hnor] at hlgs
          obtain ⟨Ar, cr, rfl, hlr⟩ := hlgs.len
          obtain ⟨X, hgd⟩ := (HGb.out.below l8).gd
          have KT := Lib.hid (told_any _ _ gs gs X w8 hlgs hgd)
          have S8 := Lib.hid (HS2.out.below l8)
          rw [show Sm gs gs = true from decide_eq_true rfl] at KT
          clear hr8 hchr hnor hlgs hgd l8
          go_wp2_with (first
            | (go_at_call 23; refine KT.out.mono ?_; rintro e w9 ⟨rfl, l9⟩; have S9 := Lib.hid (S8.out.below l9); clear l9)
            | (go_at_call 14; refine (lawake_any _).mono ?_; rintro e w10 ⟨rfl, l10⟩))
          go_ret
          exact ⟨rfl, L1.out.trans ((S9.out.from0.trans (l10.mono S9.out.from0.size)).mono L1.out.size)⟩
theorem logAgain_walk (A : Option Addr) (n c : Nat) (G : Nat → SlD) (Q : Nat → Nat → PutD) (A2 : Option Addr) (n2 c2 : Nat) (G2 : Nat → SlD) (Q2 : Nat → Nat → PutD) (AF : Option Addr) (nF cF : Nat) (fa : Nat → Int) (w : World) (hG : PutsG w A n G Q) (hG2 : PutsG w A2 n2 G2 Q2) (hI : Ints w AF nF fa) :
    Calls Try.prog 8 #[.slice A n c, .slice A2 n2 c2, .slice AF nF cF] w fun e w' => e = .returned (.bool true) ∧ Below w.heap.size w w' := @logAgain_gen ⟨fun _ => True⟩ A n c G Q A2 n2 c2 G2 Q2 AF nF cF fa w hG hG2 hI fun _ _ => trivial
end Go.Proofs.Ytdbfmllcapikkaa
/- LogWhole: its plain part. -/
namespace Go.Proofs.Ytdbfmllcapikkaa
open Go.RowKit
set_option linter.unusedVariables false
set_option linter.unusedSimpArgs false

/-- The elder groups of LogWhole: nothing lets the disk go down. -/
structure WhA (L : LS) : Prop where
  al : Alive 2 9 L
  up : Up L.S
  size : L.S.size = 64
  N : L.S.N = 12
  z : ∀ i, L.nx ≤ i → i < 9 → ∀ k, k < 64 → L.S.now (2 + i) k = 0
  e : ∀ i, i < L.nx → Elder 64 4 i (L.S.now (2 + i))
theorem WhA.step {L : LS} {n : Nat} {P : Nat → PutD} (h : WhA L) (hb : ∀ j, j < n → (P j).b < 256) : WhA (appT 2 9 3 L n P).2 := by
  have k := appT_keepsUp (ep := 3) (n := n) (P := P) h.up (by rw [h.size]; omega) h.al.N
  rcases app_cases (ep := 3) (n := n) (P := P) h.al with ⟨_, _, e⟩ | ⟨h0, _, al, nx, sz, eN, at_, out⟩ | ⟨h0, e0, _⟩
  · rw [e]; exact h
  · obtain ⟨z1, z2, z3, z4, z5⟩ := appR_zero h0 (by rw [h.size]; omega)
    refine ⟨al, k.1, sz.trans h.size, eN.trans h.N, fun i h1 h2 q hq => ?_, fun i hi => ?_⟩
    · rw [nx] at h1
      rw [out (2 + i) fun j hj => by omega]
      exact h.z i (by omega) h2 q hq
    · by_cases q : i < L.nx
      · rw [out (2 + i) fun j hj => by omega]; exact h.e i q
      · obtain ⟨j, rfl⟩ : ∃ j, i = L.nx + j := ⟨i - L.nx, by omega⟩
        rw [← Nat.add_assoc, at_ j (by omega), secL_as h.size (z4 j (by omega))]
        exact elder_sec (by omega) (by omega) (by omega) (by omega) (by omega) fun _ => hb j (by omega)
  · rw [appT_up h.up (by rw [h.size]; omega) h.al.N h0] at e0
    cases e0
theorem whA_first : WhA ⟨newS 12 64, 0, false⟩ :=
  ⟨⟨rfl, rfl, rfl, fun _ => rfl, Nat.zero_le _, ⟨by show 64 ≤ 64; omega, by show 64 ≤ 4096; omega⟩, by show 2 + 9 ≤ 12; omega⟩, ⟨rfl, rfl⟩, rfl, rfl, fun _ _ _ _ _ => rfl, fun i hi => absurd hi (by show ¬ i < 0; omega)⟩
/-- The newer groups. -/
structure WhB (L : LS) (gs : List (List Dc)) : Prop where
  al : Alive 2 9 L
  size : L.S.size = 64
  N : L.S.N = 12
  ct : Cont 2 4 L.S L.nx gs
  rs : Rest 2 9 (fun i F => Elder L.S.size 4 i F) L.S L.nx
theorem WhA.begin {L : LS} (h : WhA L) (dn : Int) : WhB ⟨armS L.S dn, 0, false⟩ [] := by
  refine ⟨⟨rfl, h.al.dn, h.al.lo, h.al.nf, Nat.zero_le _, h.al.sz, h.al.N⟩, h.size, h.N, Cont.zero _ _ _, fun i _ hi => ?_⟩
  show Elder L.S.size 4 i (L.S.now (2 + i))
  rw [h.size]
  by_cases q : i < L.nx
  · exact h.e i q
  · exact .inl (h.z i (by omega) hi)
/-- A group in the midst of which the disk went down. -/
structure WhF (L0 : LS) (gs : List (List Dc)) (n : Nat) (P : Nat → PutD) (L : LS) : Prop where
  b : WhB L0 gs
  r : appR 9 L0 n P = 0
  p : ∀ j, j < n → (P j).b < 256
  f : ∃ k, Fell 2 4 L0 n P L k
theorem WhB.step {L : LS} {gs : List (List Dc)} {n : Nat} {P : Nat → PutD} (h : WhB L gs) (hb : ∀ j, j < n → (P j).b < 256) :
    ((appT 2 9 4 L n P).1 ≠ 0 ∧ (appT 2 9 4 L n P).1 ≠ 4 ∧ WhB (appT 2 9 4 L n P).2 gs) ∨ ((appT 2 9 4 L n P).1 = 0 ∧ WhB (appT 2 9 4 L n P).2 (gs ++ [gD 19 n P])) ∨ ((appT 2 9 4 L n P).1 = 4 ∧ WhF L gs n P (appT 2 9 4 L n P).2) := by
  rcases app_cases (ep := 4) (n := n) (P := P) h.al with ⟨e0, e4, e⟩ | ⟨h0, e0, al, nx, sz, eN, at_, out⟩ | ⟨h0, e0, hf⟩
  · rw [e]; exact .inl ⟨e0, e4, h⟩
  · refine .inr (.inl ⟨e0, al, sz.trans h.size, eN.trans h.N, ?_, ?_⟩)
    · have := h.ct.app (cn := 9) (T := (appT 2 9 4 L n P).2.S) (by rw [h.size]; omega) (by omega) (by omega) (by omega) hb h0 sz nx (fun j hj q _ => by rw [at_ j hj]) out
      rw [h.size] at this
      exact this
    · have := h.rs.app (T := (appT 2 9 4 L n P).2.S) nx out
      rw [sz]
      exact this
  · exact .inr (.inr ⟨e0, h, h0, hb, hf⟩)
/-- Behind a crash, where the disk had not gone down. -/
theorem WhB.crash {L : LS} {gs : List (List Dc)} (h : WhB L gs) (fa : Nat → Int) (m : Nat) : Up (crashS L.S fa m) ∧ (crashS L.S fa m).size = 64 ∧ (crashS L.S fa m).N = 12 ∧ Cont 2 4 (crashS L.S fa m) L.nx gs ∧ Rest 2 9 (fun i F => ¬ isCh F ((crashS L.S fa m).size - 20) i 4) (crashS L.S fa m) L.nx := by
  have e : (crashS L.S fa m).now = L.S.now := (crash_quiet h.al.lo).1
  refine ⟨⟨rfl, rfl⟩, h.size, h.N, h.ct.keep h.al.sz.1 rfl fun i _ => by rw [e], fun i h1 h2 => ?_⟩
  rw [e]
  show ¬ isCh (L.S.now (2 + i)) (L.S.size - 20) i 4
  exact elder_no h.al.sz.1 (by omega) (by omega) (h.rs i h1 h2) (Nat.le_refl _) (by omega)
theorem WhF.crash {L0 L : LS} {gs : List (List Dc)} {n : Nat} {P : Nat → PutD} (h : WhF L0 gs n P L) (fa : Nat → Int) (m : Nat) : Up (crashS L.S fa m) ∧ (crashS L.S fa m).size = 64 ∧ (crashS L.S fa m).N = 12 := by
  obtain ⟨k, hk⟩ := h.f
  exact ⟨⟨rfl, rfl⟩, hk.w.size.trans h.b.size, hk.w.N.trans h.b.N⟩
theorem WhF.read {L0 L : LS} {gs : List (List Dc)} {n k' m : Nat} {P : Nat → PutD} {fa : Nat → Int} (h : WhF L0 gs n P L) (hk : k' ≤ 9) (hch : ∀ i, i < k' → chAt (crashS L.S fa m) 2 4 i) (hno : k' < 9 → ¬ chAt (crashS L.S fa m) 2 4 k') :
    (dTo (lastB (crashS L.S fa m) 2) (dcOf (crashS L.S fa m) 2) k').1 = gs ∨ (dTo (lastB (crashS L.S fa m) 2) (dcOf (crashS L.S fa m) 2) k').1 = gs ++ [gD 19 n P] := by
  obtain ⟨k, hF⟩ := h.f
  have := read_fell (fa := fa) (m := m) h.b.al h.b.ct h.b.rs (by omega) (by omega) (by omega) h.p h.r hF hk hch hno
  rw [h.b.size] at this
  exact this
theorem WhF.lo {L0 L : LS} {gs : List (List Dc)} {n : Nat} {P : Nat → PutD} (h : WhF L0 gs n P L) : L.dead = true := by
  obtain ⟨k, hk⟩ := h.f
  exact hk.dd
end Go.Proofs.Ytdbfmllcapikkaa
/- A Storm and a Row that came in as arguments. -/
namespace Go.Proofs.Ytdbfmllcapikkaa
open Go.Joins Go.Deep Go.ChangeShapes Go.WideShapes Go.ChangeAt Go.RowKit
set_option linter.unusedVariables false
section
variable {H : Type} {enc : TypeId × Value → H} {w : World} {base : Nat} {held : Bool}
theorem lcells_groups : Try.prog.cellsOf 22 = 1 := by kernel_rfl
theorem lcells_storm : Try.prog.cellsOf 69 = 4 := by kernel_rfl
theorem lcells_row : Try.prog.cellsOf 24 = 5 := by kernel_rfl
theorem list_four {α : Type} : ∀ (l : List α), l.length = 4 → ∃ a b c d, l = [a, b, c, d]
  | [a, b, c, d], _ => ⟨a, b, c, d, rfl⟩
theorem list_five {α : Type} : ∀ (l : List α), l.length = 5 → ∃ a b c d e, l = [a, b, c, d, e]
  | [a, b, c, d, e], _ => ⟨a, b, c, d, e, rfl⟩
theorem storm_in {fuel : Nat} {v : Value} {x : DataW H × List MemPlace} (hv : ∃ cs, v = .agg cs ∧ cs.size = 4) (h : DataW.trod enc Try.prog w base (fun _ => true) held fuel 69 v.cells.toList = some x) :
    ∃ A n c G Q A2 n2 c2 G2 Q2 dn AF nF cF fa, v = .agg #[.slice A n c, .slice A2 n2 c2, .int .i64 dn, .slice AF nF cF] ∧ PutsG w A n G Q ∧ PutsG w A2 n2 G2 Q2 ∧ dn ≤ 9223372036854775807 ∧ Ints w AF nF fa := by
  obtain ⟨cs, rfl, hs⟩ := hv
  obtain ⟨l⟩ := cs
  have h' : DataW.trod enc Try.prog w base (fun _ => true) held fuel 69 l = some x := by simpa [Value.cells] using h
  clear h
  obtain ⟨xs, n, _, _, hl, hlen, hf⟩ := DataW.trod_struct Try.underlying69 h'
  clear hl
  have hx4 : xs.length = 4 := hlen
  clear hlen
  have hl4 : l.length = 4 := hs
  clear hs
  obtain ⟨c0, c1, c2, c3, rfl⟩ := list_four l hl4
  obtain ⟨y0, y1, y2, y3, rfl⟩ := list_four xs hx4
  have t0 : DataW.trod enc Try.prog w base (fun _ => true) held n 22 [c0] = some y0 := by simpa [lcells_groups] using hf 0 _ rfl
  have t1 : DataW.trod enc Try.prog w base (fun _ => true) held n 22 [c1] = some y1 := by simpa [lcells_groups] using hf 1 _ rfl
  have t2 : DataW.trod enc Try.prog w base (fun _ => true) held n 3 [c2] = some y2 := by simpa [lcells_int] using hf 2 _ rfl
  have t3 : DataW.trod enc Try.prog w base (fun _ => true) held n 67 [c3] = some y3 := by simpa [lcells_ints] using hf 3 _ rfl
  obtain ⟨A, n1, k1, G, Q, rfl, i1⟩ := groups_in t0
  obtain ⟨A2, n2, k2, G2, Q2, rfl, i2⟩ := groups_in t1
  obtain ⟨z, e2, _, w2⟩ := DataW.trod_int Try.underlying3 t2
  obtain ⟨AF, nF, cF, fa, rfl, i3, _⟩ := lints_in t3
  simp only [List.cons.injEq, and_true] at e2
  subst e2
  have bd := bounds_i64 w2
  exact ⟨A, n1, k1, G, Q, A2, n2, k2, G2, Q2, z, AF, nF, cF, fa, rfl, i1, i2, bd.2, i3⟩
theorem row_in {fuel : Nat} {v : Value} {x : DataW H × List MemPlace} (hv : ∃ cs, v = .agg cs ∧ cs.size = 5) (h : DataW.trod enc Try.prog w base (fun _ => true) held fuel 24 v.cells.toList = some x) :
    ∃ more f cn ep A n c G Q, v = .agg #[.int .u8 more, .int .i64 f, .int .i64 cn, .int .i64 ep, .slice A n c] ∧ (0 ≤ more ∧ more < 256) ∧ (-9223372036854775808 ≤ f ∧ f ≤ 9223372036854775807) ∧ (-9223372036854775808 ≤ cn ∧ cn ≤ 9223372036854775807) ∧ (-9223372036854775808 ≤ ep ∧ ep ≤ 9223372036854775807) ∧ PutsG w A n G Q := by
  obtain ⟨cs, rfl, hs⟩ := hv
  obtain ⟨l⟩ := cs
  have h' : DataW.trod enc Try.prog w base (fun _ => true) held fuel 24 l = some x := by simpa [Value.cells] using h
  clear h
  obtain ⟨xs, n, _, _, hl, hlen, hf⟩ := DataW.trod_struct Try.underlying24 h'
  clear hl
  have hx5 : xs.length = 5 := hlen
  clear hlen
  have hl5 : l.length = 5 := hs
  clear hs
  obtain ⟨c0, c1, c2, c3, c4, rfl⟩ := list_five l hl5
  obtain ⟨y0, y1, y2, y3, y4, rfl⟩ := list_five xs hx5
  have t0 : DataW.trod enc Try.prog w base (fun _ => true) held n 5 [c0] = some y0 := by simpa [lcells_u8] using hf 0 _ rfl
  have t1 : DataW.trod enc Try.prog w base (fun _ => true) held n 3 [c1] = some y1 := by simpa [lcells_int] using hf 1 _ rfl
  have t2 : DataW.trod enc Try.prog w base (fun _ => true) held n 3 [c2] = some y2 := by simpa [lcells_int] using hf 2 _ rfl
  have t3 : DataW.trod enc Try.prog w base (fun _ => true) held n 3 [c3] = some y3 := by simpa [lcells_int] using hf 3 _ rfl
  have t4 : DataW.trod enc Try.prog w base (fun _ => true) held n 22 [c4] = some y4 := by simpa [lcells_groups] using hf 4 _ rfl
  obtain ⟨z0, e0, _, w0⟩ := DataW.trod_int Try.underlying5 t0
  obtain ⟨z1, e1, _, w1⟩ := DataW.trod_int Try.underlying3 t1
  obtain ⟨z2, e2, _, w2⟩ := DataW.trod_int Try.underlying3 t2
  obtain ⟨z3, e3, _, w3⟩ := DataW.trod_int Try.underlying3 t3
  obtain ⟨A, n1, k1, G, Q, rfl, i1⟩ := groups_in t4
  simp only [List.cons.injEq, and_true] at e0 e1 e2 e3
  subst e0 e1 e2 e3
  have b0 := bounds_u8 w0
  exact ⟨z0, z1, z2, z3, A, n1, k1, G, Q, rfl, by omega, bounds_i64 w1, bounds_i64 w2, bounds_i64 w3, i1⟩
end
end Go.Proofs.Ytdbfmllcapikkaa
/- LogWhole: the walk of its law. -/
namespace Go.Proofs.Ytdbfmllcapikkaa
open Go.RowKit
set_option linter.unusedVariables false
set_option linter.unusedSimpArgs false

/-- The argument's box. -/
def StBox (W : World) (B : Nat) (v0 v1 v2 v3 : Value) : Prop := W.cell? ⟨B, 0, none⟩ = some v0 ∧ W.cell? ⟨B, 1, none⟩ = some v1 ∧ W.cell? ⟨B, 2, none⟩ = some v2 ∧ W.cell? ⟨B, 3, none⟩ = some v3
theorem StBox.kept {W W' : World} {B n : Nat} {v0 v1 v2 v3 : Value} (h : StBox W B v0 v1 v2 v3) (hB : B < n) (l : Below n W W') : StBox W' B v0 v1 v2 v3 :=
  ⟨kept_l l hB h.1, kept_l l hB h.2.1, kept_l l hB h.2.2.1, kept_l l hB h.2.2.2⟩
theorem GD.keepY {X : Nat → Prop} {W W' : World} {gs : List (List Dc)} {g n c : Nat} (h : GD X W (.slice (some ⟨g, 0, none⟩) n c) gs) (hX : ∀ b, X b → ∃ cs, W.heap[b]? = some (.cells cs 47 (0, 0))) (hg : ∃ cs, W.heap[g]? = some (.cells cs 45 (0, 0))) (k : KeepY badD W W') : GD X W' (.slice (some ⟨g, 0, none⟩) n c) gs := by
  obtain ⟨A, c', vs, e, h1, h2, h3, h4⟩ := h
  injection e with e _ _
  subst e
  refine ⟨some ⟨g, 0, none⟩, c, vs, by congr 1, h1, h2, fun h0 => ?_, fun j u l a b => (h4 j u l a b).keep (KeepX.heap fun b hb => ?_) fun _ x => x⟩
  · obtain ⟨b, o, e2, h5⟩ := h3 h0
    cases e2
    exact ⟨_, _, rfl, fun j u hu => k.cell hg (by decide) (h5 j u hu)⟩
  · obtain ⟨cs, hc⟩ := hX b hb
    rw [hc, k b cs _ hc (by decide)]
/-- A copy of the groups, and one more behind it, in new memory. -/
theorem GB.copy {n0 : Nat} {gs : List (List Dc)} {g : List Dc} {vG vg v2 : Value} {W W' : World} (h : GB n0 gs g vG vg W) (hgs : gs.length < 1000000) (l : Below W.heap.size W W')
    (hown : ∀ vs, W.ownsRow n0 45 1 vG gs.length vs → W'.ownsRow n0 45 1 v2 (gs.length + 1) (vs ++ [vg])) : ∃ X, GD X W' v2 (gs ++ [g]) ∧ ∀ b, X b → ∃ cs, W'.heap[b]? = some (.cells cs 47 (0, 0)) := by
  have h' := h.below l
  obtain ⟨X, vs, h1, h2, h3, h4, h5, h6⟩ := h'
  obtain ⟨X0, vs0, k1, _⟩ := h
  have e : vs0 = vs := own_same (own_belowR k1 l) h1
  subst e
  have ho := hown vs0 k1
  have h0 := ho
  have hlen : vs0.length = gs.length := by have := h1.1; omega
  refine ⟨fun b => X b ∨ some b = vg.ownBlock, ?_, fun b hb => by
    rcases hb with hb | hb
    · exact (h4 b hb).2.1
    · exact (own_typed h3 hb.symm).2⟩
  rcases ho.2 with ⟨_, q⟩ | ⟨q, cap, cur, rfl, _⟩
  · omega
  refine ⟨some ⟨q, 0, none⟩, cap, vs0 ++ [vg], by rw [List.length_append]; rfl, by simp [hlen], by simp; omega, fun _ => ⟨q, 0, rfl, fun j u hu => by
    rw [Nat.zero_add, ← hu]
    exact World.ownsRow.cellAt (w := W') (base := n0) (e := 45) (size := 1) h0 j (by have := (List.getElem?_eq_some_iff.1 hu).1; simp [hlen] at this; omega)⟩, fun j u l a b => ?_⟩
  by_cases hj : j < gs.length
  · rw [List.getElem?_append_left (by omega)] at a
    rw [List.getElem?_append_left hj] at b
    exact (h2 j u l a b).keep (X' := fun b => X b ∨ some b = vg.ownBlock) (fun b o v hb hv => hv) fun _ x => .inl x
  · rw [List.getElem?_append_right (by omega)] at a
    rw [List.getElem?_append_right (by omega)] at b
    match hq : j - gs.length with
    | 0 =>
      rw [show j - vs0.length = 0 by omega] at a
      rw [hq] at b
      simp at a b
      subst a b
      exact (RD.own h3 h6).keep (X' := fun b => X b ∨ some b = vg.ownBlock) (fun b o v hb hv => hv) fun _ x => .inr x
    | q + 1 => rw [hq] at b; simp at b
set_option maxRecDepth 100000 in
set_option maxHeartbeats 16000000 in
theorem logWhole_gen [Spare] (A : Option Addr) (n c : Nat) (G : Nat → SlD) (Q : Nat → Nat → PutD) (A2 : Option Addr) (n2 c2 : Nat) (G2 : Nat → SlD) (Q2 : Nat → Nat → PutD) (dn : Int) (AF : Option Addr) (nF cF : Nat) (fa : Nat → Int) (w : World) (hG : PutsG w A n G Q) (hG2 : PutsG w A2 n2 G2 Q2) (hdn : dn ≤ 9223372036854775807) (hI : Ints w AF nF fa) (hE : ∀ g, w.heap.size ≤ g → Spare.ok g) :
    Calls Try.prog 5 #[.agg #[.slice A n c, .slice A2 n2 c2, .int .i64 dn, .slice AF nF cF]] w fun e w' => e = .returned (.bool true) ∧ Below w.heap.size w w' := by
  have hn := hG.1.1
  have hn2 := hG2.1.1
  have hnF := hI.1
  obtain ⟨W0, hW0⟩ : ∃ W0 : World, W0 = w.alloc (.cells #[.slice A n c, .slice A2 n2 c2, .int .i64 dn, .slice AF nF cF] 69) := ⟨_, rfl⟩
  have l00 : Below w.heap.size w W0 := by rw [hW0]; exact (Below.refl _ _).alloc (Nat.le_refl _) _
  have hs00 : W0.heap.size = w.heap.size + 1 := by rw [hW0]; simp
  have bx0 : StBox W0 w.heap.size (.slice A n c) (.slice A2 n2 c2) (.int .i64 dn) (.slice AF nF cF) := by rw [hW0]; exact ⟨by simp, by simp, by simp, by simp⟩
  have HG := Lib.hid (hG.below l00)
  have HG2 := Lib.hid (hG2.below l00)
  have HI := Lib.hid (hI.below l00 (Nat.le_refl _))
  have L00 := Lib.hid l00
  have BX := Lib.hid (show ∀ W, Below (w.heap.size + 1) W0 W → StBox W w.heap.size (.slice A n c) (.slice A2 n2 c2) (.int .i64 dn) (.slice AF nF cF) from fun W l => bx0.kept (by omega) l)
  have HW0 := Lib.hid hW0
  have HS00 := Lib.hid hs00
  have KL := Lib.hid (light_any 0 0 0 0 A n c G W0 (hG.below l00).1)
  have KL2 := Lib.hid (show ∀ W, Below W0.heap.size W0 W → Calls Try.prog 9 #[.agg #[.int .u8 0, .int .i64 0, .int .i64 0, .int .i64 0, .slice A2 n2 c2]] W fun e w' => e = .returned (.bool (lightGB n2 G2)) ∧ Below W.heap.size W w' from fun W l => light_any 0 0 0 0 A2 n2 c2 G2 W ((hG2.below l00).below l).1)
  obtain ⟨bx1, bx2, bx3, bx4⟩ := bx0
  clear hG hG2 hI hW0 l00 hs00
  by_cases hl : lightGB n G = true
  case neg =>
    have hl2 : lightGB n G = false := by simpa using hl
    rw [hl2] at KL
    go_enter Try.func5, Try.ntmps5
    go_upto_region 1 with (fail)
    rw [← HW0.out]
    go_wp2_with (go_at_call 9; refine KL.out.mono ?_; rintro e w1 ⟨rfl, l1⟩)
    go_ret
    exact ⟨rfl, L00.out.trans (l1.mono L00.out.size)⟩
  rw [hl] at KL
  have HL := Lib.hid (of_decide_eq_true hl)
  clear hl
  by_cases hl : lightGB n2 G2 = true
  case neg =>
    have hl2 : lightGB n2 G2 = false := by simpa using hl
    rw [hl2] at KL2
    clear hl hl2
    go_enter Try.func5, Try.ntmps5
    go_upto_region 1 with (fail)
    rw [← HW0.out]
    go_wp2_with fail
    refine KL.out.mono ?_
    rintro e w1 ⟨rfl, l1⟩
    have L1 := Lib.hid l1
    obtain ⟨y1, y2, y3, y4⟩ := BX.out _ (l1.mono (by rw [HS00.out]; exact Nat.le_refl _))
    clear l1
    go_wp2_with (go_at_call 9; refine (KL2.out _ L1.out).mono ?_; rintro e w2 ⟨rfl, l2⟩)
    go_ret
    exact ⟨rfl, L00.out.trans ((L1.out.trans (l2.mono L1.out.size)).mono L00.out.size)⟩
  rw [hl] at KL2
  have HL2 := Lib.hid (of_decide_eq_true hl)
  clear hl
  have BX2 := Lib.hid (show ∀ W, Below W0.heap.size W0 W → StBox W w.heap.size (.slice A n c) (.slice A2 n2 c2) (.int .i64 dn) (.slice AF nF cF) from fun W l => BX.out W (by rw [← HS00.out]; exact l))
  by_cases h60 : 60 < nF
  · have hI60 : (60 : Int) < (nF : Int) := by omega
    go_enter Try.func5, Try.ntmps5
    go_upto_region 1 with (fail)
    rw [← HW0.out]
    go_wp2_with fail
    refine KL.out.mono ?_
    rintro e w1 ⟨rfl, l1⟩
    have L1 := Lib.hid l1
    obtain ⟨y1, y2, y3, y4⟩ := BX2.out _ l1
    clear l1
    go_wp2_with fail
    refine (KL2.out _ L1.out).mono ?_
    rintro e w2 ⟨rfl, l2⟩
    have L2 := Lib.hid (L1.out.trans (l2.mono L1.out.size))
    obtain ⟨z1, z2, z3, z4⟩ := BX2.out _ L2.out
    clear l2
    go_wp2
    go_ret
    exact ⟨rfl, L00.out.trans (L2.out.mono L00.out.size)⟩
  have hI60 : ¬ (60 : Int) < (nF : Int) := by omega
  go_enter Try.func5, Try.ntmps5
  go_upto_region 1 with (fail)
  rw [← HW0.out]
  go_wp2_with fail
  refine KL.out.mono ?_
  rintro e w0 ⟨rfl, l0⟩
  have L0 := Lib.hid l0
  obtain ⟨y1, y2, y3, y4⟩ := BX2.out _ l0
  clear l0
  go_wp2_with fail
  refine (KL2.out _ L0.out).mono ?_
  rintro e w1 ⟨rfl, l1⟩
  have L1' := Lib.hid (L0.out.trans (l1.mono L0.out.size))
  have L1 := Lib.hid (L00.out.trans (L1'.out.mono L00.out.size))
  obtain ⟨z1, z2, z3, z4⟩ := BX2.out _ L1'.out
  have HGw := Lib.hid (HG.out.below L1'.out)
  have HG2w := Lib.hid (HG2.out.below L1'.out)
  have HIw := Lib.hid (HI.out.below L1'.out (Nat.le_refl _))
  have hb0 : w.heap.size < w1.heap.size := by have := L1'.out.size; have := HS00.out; omega
  have BW := Lib.hid (show ∀ W, Below w1.heap.size w1 W → StBox W w.heap.size (.slice A n c) (.slice A2 n2 c2) (.int .i64 dn) (.slice AF nF cF) from fun W l => StBox.kept ⟨z1, z2, z3, z4⟩ hb0 l)
  clear l1 y1 y2 y3 y4 bx1 bx2 bx3 bx4
  go_wp2_with fail
  clear z1 z2 z3 z4
  refine (new_ok 12 64 w1 (by omega) (by omega) (fun g hg => hE g (Nat.le_trans L1.out.size hg))).mono ?_
  rintro e w2 ⟨M0, rfl, d2, l2⟩
  have O2 := Lib.hid (show On w1 w1.heap.size M0 (newS 12 64) w2 from ⟨d2, l2, Nat.le_refl _⟩)
  clear d2 l2
  go_wp2_with fail
  refine (lst_start (f := 2) (cn := 9) (ep := 3) O2.out (by omega) (by omega) (by omega) (by decide) (by omega) (by omega)).mono ?_
  rintro e w3 ⟨b, rfl, s3, l3, hb3⟩
  have S3 := Lib.hid s3
  clear s3 l3
  go_wp2
  go_loopw [6] (fun i wr => ∃ (k : Nat) (L : LS), k ≤ n ∧ i = .int .i64 (k : Nat) ∧ WhA L ∧ LSt w1 w1.heap.size b 2 9 3 M0 L wr) (fun i _ => n - (intOf i).toNat)
  case atStart => exact ⟨0, _, Nat.zero_le _, rfl, whA_first, S3.out⟩
  case round =>
    obtain ⟨k, L, hk, rfl, hok, hst⟩ := hrel
    obtain ⟨wo, hwo⟩ : ∃ wo, wo = wr := ⟨_, rfl⟩
    subst hwo
    have HOk := Lib.hid hok
    have HS := Lib.hid hst
    obtain ⟨x1, x2, x3, x4⟩ := BW.out _ hst.from0
    clear hok hst
    by_cases hlt : k < n
    · have HG1 := Lib.hid (HGw.out.below HS.out.from0)
      obtain ⟨bb, o, rfl, hc⟩ := HG1.out.1.2.2 (by omega)
      have ck := hc k hlt
      have hgn := HL.out.2 k hlt
      have hP := HG1.out.2 k hlt
      rcases hGk : G k with ⟨Ak, nk, dk⟩
      rw [hGk] at ck hgn hP
      dsimp only at ck hgn hP
      have HPk := Lib.hid hP
      clear hc hGk hP
      obtain ⟨r, hr⟩ : ∃ r, r = (appT 2 9 3 L nk (Q k)).1 := ⟨_, rfl⟩
      have HN := Lib.hid (HOk.out.step (n := nk) (P := Q k) HPk.out.2.1)
      have KA := Lib.hid (show ∀ (w2 : World) (v : Value), Below wo.heap.size wo w2 → GrpR wo.heap.size w2 19 (Q k) nk v → Calls Try.prog 17 #[.pointer (some ⟨b, 0, none⟩), v] w2 fun e w' => e = .returned (.int .i64 r) ∧ LSt w1 w1.heap.size b 2 9 3 M0 (appT 2 9 3 L nk (Q k)).2 w' ∧ KeepT b w2 w' from hr ▸ fun w2 v l hg => app_step (n := nk) (P := Q k) HS.out (by omega) (by rw [HOk.out.al.lo]; show 0 + nk < 1000000; omega) (by omega) (by omega) HOk.out.al.nx (by omega) (by omega) l (by rw [HOk.out.size]; exact hg))
      have KG := Lib.hid (show Calls Try.prog 16 #[.slice Ak nk dk, .int .i64 19] wo fun e w' => (∃ v, e = .returned v ∧ GrpR wo.heap.size w' 19 (Q k) nk v) ∧ Below wo.heap.size wo w' from group_any Ak nk dk (Q k) 19 wo (by omega) (by omega) HPk.out)
      clear hr
      go_wp2_with (first
        | (go_at_call 16; refine KG.out.mono ?_; rintro e W5 ⟨⟨v5, rfl, g5⟩, l5⟩; have L5 := Lib.hid l5; have G5 := Lib.hid g5; clear l5 g5)
        | (go_at_call 17; refine (KA.out _ _ L5.out G5.out).mono ?_; rintro e W6 ⟨rfl, s6, k6⟩; have S6 := Lib.hid s6; clear s6 k6))
      go_roundw
      case rel => exact ⟨k + 1, _, by omega, by go_num, HN.out, S6.out⟩
      case measure => simp [intOf]; omega
    · obtain rfl : k = n := by omega
      have hO5 : ∃ v5, On w1 w1.heap.size { M0 with vl := v5 } L.S wo := HS.out.1
      obtain ⟨v5, O5⟩ := hO5
      have H5 := Lib.hid O5
      clear O5
      go_wp2_with fail
      refine (lst_start (f := 2) (cn := 9) (ep := 4) H5.out (by omega) (by omega) (by omega) (by rw [HOk.out.N]; decide) (by omega) (by omega)).mono ?_
      rintro e w6 ⟨b6, rfl, s6, l6, hb6⟩
      have S6 := Lib.hid (show LSt w1 w1.heap.size b6 2 9 4 M0 ⟨L.S, 0, false⟩ w6 from s6)
      clear s6 l6 x1 x2 x3 x4
      obtain ⟨x1, x2, x3, x4⟩ := BW.out _ S6.out.from0
      go_wp2_with fail
      refine (lst_arm dn S6.out hdn).mono ?_
      rintro e w7 ⟨rfl, s7, k7⟩
      have S7 := Lib.hid (show LSt w1 w1.heap.size b6 2 9 4 M0 ⟨armS L.S dn, 0, false⟩ w7 from s7)
      clear s7 k7 x1 x2 x3 x4
      have HB0 := Lib.hid (HOk.out.begin dn)
      obtain ⟨i1, hi1, hy0, hy1, hy2⟩ := infoPartsR infoDcs
      have HIn := Lib.hid (And.intro hi1 (And.intro hy0 (And.intro hy1 hy2)))
      clear hi1 hy0 hy1 hy2
      go_wp2
      go_loopw [9, 10, 11] (fun u t i wr => ∃ (k : Nat) (L : LS) (gs : List (List Dc)), k ≤ n2 ∧ t = .slice none 0 0 ∧ i = .int .i64 (k : Nat) ∧ WhB L gs ∧ gs.length ≤ k ∧ (gs = [] → u = .slice none 0 0) ∧ GB w1.heap.size gs [] u (.slice none 0 0) wr ∧ LSt w1 w1.heap.size b6 2 9 4 M0 L wr) (fun u t i _ => n2 - (intOf i).toNat)
      case atStart => exact ⟨0, _, [], Nat.zero_le _, rfl, rfl, HB0.out, Nat.le_refl _, fun _ => rfl, GB.nil _ _, S7.out⟩
      case round =>
        obtain ⟨k2, L, gs, hk2, rfl, rfl, hok, hgl, hnil, hgb, hst⟩ := hrel
        obtain ⟨wi, hwi⟩ : ∃ wi, wi = wr := ⟨_, rfl⟩
        subst hwi
        have HOk2 := Lib.hid hok
        have HS2 := Lib.hid hst
        have HGb := Lib.hid hgb
        have HNil := Lib.hid hnil
        obtain ⟨x1, x2, x3, x4⟩ := BW.out _ hst.from0
        clear hok hst hgb hnil
        by_cases hlt2 : k2 < n2
        · have HG1 := Lib.hid (HG2w.out.below HS2.out.from0)
          obtain ⟨bb, o, rfl, hc⟩ := HG1.out.1.2.2 (by omega)
          have ck := hc k2 hlt2
          have hgn := HL2.out.2 k2 hlt2
          have hP := HG1.out.2 k2 hlt2
          rcases hGk : G2 k2 with ⟨Ak, nk, dk⟩
          rw [hGk] at ck hgn hP
          dsimp only at ck hgn hP
          have HPk := Lib.hid hP
          clear hc hGk hP
          obtain ⟨P, hP⟩ : ∃ P, P = Q2 k2 := ⟨_, rfl⟩
          rw [← hP] at HPk
          clear hP
          obtain ⟨r, hr⟩ : ∃ r, r = (appT 2 9 4 L nk P).1 := ⟨_, rfl⟩
          obtain ⟨L', hL'⟩ : ∃ L', L' = (appT 2 9 4 L nk P).2 := ⟨_, rfl⟩
          have HN := Lib.hid (HOk2.out.step (n := nk) (P := P) HPk.out.2.1)
          rw [← hr, ← hL'] at HN
          have KA := Lib.hid (show ∀ (w2 : World) (v : Value), Below wi.heap.size wi w2 → GrpR wi.heap.size w2 19 P nk v → Calls Try.prog 17 #[.pointer (some ⟨b6, 0, none⟩), v] w2 fun e w' => e = .returned (.int .i64 r) ∧ LSt w1 w1.heap.size b6 2 9 4 M0 L' w' ∧ KeepT b6 w2 w' from hr ▸ hL' ▸ fun w2 v l hg => app_step (n := nk) (P := P) HS2.out (by omega) (by rw [HOk2.out.al.lo]; show 0 + nk < 1000000; omega) (by omega) (by omega) HOk2.out.al.nx (by omega) (by omega) l (by rw [HOk2.out.size]; exact hg))
          have KG := Lib.hid (show Calls Try.prog 16 #[.slice Ak nk dk, .int .i64 19] wi fun e w' => (∃ v, e = .returned v ∧ GrpR wi.heap.size w' 19 P nk v) ∧ Below wi.heap.size wi w' from group_any Ak nk dk P 19 wi (by omega) (by omega) HPk.out)
          clear hr hL'
          go_wp2_with (first
            | (go_at_call 16; refine KG.out.mono ?_; rintro e W5 ⟨⟨v5, rfl, g5⟩, l5⟩; obtain ⟨A17, c17, rfl⟩ := g5.len; have L5' := Lib.hid l5; have G5 := Lib.hid g5; clear l5 g5)
            | (go_at_call 17; refine (KA.out _ _ L5'.out G5.out).mono ?_; rintro e W6 ⟨rfl, s6, k6⟩; have S6' := Lib.hid s6; have K6 := Lib.hid k6; clear s6 k6))
          have HK6 := Lib.hid (K6.out.y (HS2.out.below L5'.out).blk)
          have GB6 := Lib.hid ((HGb.out.below L5'.out).keepY HK6.out)
          have GR6 := Lib.hid (G5.out.keepY HK6.out (by decide) (by decide))
          clear x1 x2 x3 x4 ck
          go_loopw [14, 15] (fun u i W => ∃ j : Nat, j ≤ nk ∧ i = .int .i64 j ∧ GB w1.heap.size gs ((gD 19 nk P).take j) u9 u W ∧ GrpR wi.heap.size W 19 P nk (.slice A17 nk c17) ∧ LSt w1 w1.heap.size b6 2 9 4 M0 L' W) (fun u i _ => nk - (intOf i).toNat)
          case atStart => exact ⟨0, Nat.zero_le _, rfl, GB6.out, GR6.out, S6'.out⟩
          case round =>
              obtain ⟨j, hj, rfl, hgb, hgr, hst⟩ := hrel
              obtain ⟨wj, hwj⟩ : ∃ wj, wj = wr := ⟨_, rfl⟩
              subst hwj
              have HGj := Lib.hid hgb
              have HRj := Lib.hid hgr
              have HSj := Lib.hid hst
              have hsz : w1.heap.size ≤ wj.heap.size := hst.from0.size
              clear hgb hgr hst
              have hlen : ((gD 19 nk P).take j).length = j := take_len' (by rw [gD_len]; omega)
              by_cases hjl : j < nk
              · obtain ⟨g17, c17', b17, m2, e17, hm2, KC'⟩ := grp_read HRj.out hjl
                injection e17 with e17 e18 e19
                subst e17 e19
                clear e18 hm2
                obtain ⟨xp, hxp⟩ : ∃ x, x = (P j).page := ⟨_, rfl⟩
                obtain ⟨xs, hxs⟩ : ∃ s, s = (putDc 19 P j).2 := ⟨_, rfl⟩
                have HX := Lib.hid (show (gD 19 nk P)[j]? = some (xp, xs) by rw [gD_at hjl, hxp, hxs]; rfl)
                rw [← hxp, ← hxs] at KC'
                have KC := Lib.hid (show ∀ W, KeepY badR wj W → W.cell? ⟨g17, j * 2, none⟩ = some (.int .i64 xp) ∧ W.cell? ⟨g17, j * 2 + 1, none⟩ = some (.slice (some ⟨b17, 0, none⟩) m2 m2) ∧ (convert 42 9 (.slice (some ⟨b17, 0, none⟩) m2 m2)).run Try.prog W = .ok (.string xs) W from fun W k => KC' badR W k (by decide) (by decide))
                clear hxp hxs KC'
                obtain ⟨s1, s2, s3⟩ := KC.out _ KeepY.refl
                have hown := HGj.out.own.2
                rw [hlen] at hown
                obtain ⟨A7', c7', rfl⟩ := own_sl hown
                have l3 : Below wj.heap.size wj (wj.drew.alloc (.cells #[.int .i64 xp, .string xs] 47)) := ((Below.refl _ _).drew).alloc (Nat.le_refl _) _
                have L3 := Lib.hid l3
                have HO3 := Lib.hid (own_belowR hown l3)
                have HB3 := Lib.hid (HGj.out.below l3)
                have HS3 := Lib.hid (HSj.out.below l3)
                have HR3 := Lib.hid (HRj.out.keepY (bad := badR) (KeepY.below l3) (by decide) (by decide))
                have HLen := Lib.hid hlen
                clear hown hlen l3
                go_wp2
                go_region_held_law (fun W => W.cell? ⟨g17, j * 2, none⟩ = some (.int .i64 xp) ∧ W.cell? ⟨g17, j * 2 + 1, none⟩ = some (.slice (some ⟨b17, 0, none⟩) m2 m2) ∧ (convert 42 9 (.slice (some ⟨b17, 0, none⟩) m2 m2)).run Try.prog W = .ok (.string xs) W)
                  (first | exact KD.out | exact KC.out _ (KeepY.below L3.out) | exact KC.out _ (KeepY.below (Below.refl _ _).drew))
                  (first
                  | (refine step_append_dc (by rfl) _ _ 45 rfl Try.underlying45 infoDc w1.heap.size (.slice A7' j c7') j (dcCells ((gD 19 nk P).take j)) rfl HO3.out ⟨wj.heap.size, 0, none⟩ (.int .i64 xp) (.string xs) rfl rfl rfl (cells_newR2 _ _ _ _) (by omega) (Nat.le_trans hsz (by simp)) ?_
                     intro v2 w9 HO2 HG2' HA2
                     have HY : Hid (KeepY badR (wj.drew.alloc (.cells #[.int .i64 xp, .string xs] 47)) w9) := Lib.hid (KeepY.grown HO3.out (by decide) HG2'.out)
                     have HS9 : Hid (LSt w1 w1.heap.size b6 2 9 4 M0 L' w9) := Lib.hid (HS3.out.grown HO3.out (Nat.le_refl _) (by decide) (by decide) HG2'.out)
                     have HR9 : Hid (GrpR wi.heap.size w9 19 P nk (.slice (some ⟨g17, 0, none⟩) nk c17)) := Lib.hid (HR3.out.keepY HY.out (by decide) (by decide))
                     have KD := Lib.hid (KC.out _ ((KeepY.below L3.out).trans HY.out))))
                go_wp2
                go_roundw
                case rel =>
                  refine ⟨j + 1, by omega, by go_num, ?_, HR9.out, HS9.out⟩
                  rw [take_snoc HX.out]
                  exact HB3.out.push (x := (xp, xs)) (by rw [HLen.out]; omega) (by rw [HLen.out]; exact HO2.out) HG2'.out HA2.out
                case measure => simp [intOf]; omega
              · obtain rfl : j = nk := by omega
                have HGl := Lib.hid (show GB w1.heap.size gs (gD 19 j P) u9 u14 wj by
                  have := HGj.out
                  rw [List.take_of_length_le (by rw [gD_len]; omega)] at this
                  exact this)
                obtain ⟨⟨A5, c5, h5⟩, ⟨A7', c7', h7⟩, hl1, hl2⟩ := HGl.out.len
                rw [gD_len] at h7
                obtain ⟨gn, hgn'⟩ : ∃ m, m = gs.length := ⟨_, rfl⟩
                rw [← hgn'] at h5 hl1 hgl
                have HGn := Lib.hid hgl
                subst h5 h7
                obtain ⟨vs, hvs⟩ := HGl.out.own.1
                rw [← hgn'] at hvs
                have HV := Lib.hid hvs
                have HLen := Lib.hid hgn'
                clear hvs hgn' hlen hl2
                have l3 : Below wj.heap.size wj (wj.alloc (.cells #[.slice A7' j c7'] 45)) := (Below.refl _ _).alloc (Nat.le_refl _) _
                have L3 := Lib.hid l3
                have HB3 := Lib.hid (HGl.out.below l3)
                have HS3 := Lib.hid (HSj.out.below l3)
                have HV3 := Lib.hid (own_belowR HV.out l3)
                clear l3
                rcases HN.out with ⟨hne, hne4, hB'⟩ | ⟨he, hB'⟩ | ⟨he4, hF⟩
                · have hq : (r == 0) = false := by simpa using hne
                  have hq4 : (r == 4) = false := by simpa using hne4
                  have HB' := Lib.hid hB'
                  clear hne hne4 hB' HN
                  go_wp2
                  go_roundw
                  case rel => exact ⟨k2 + 1, L', gs, by omega, rfl, by go_num, HB'.out, by have := HLen.out; omega, HNil.out, HGl.out.drop, HSj.out⟩
                  case measure => simp [intOf]; omega
                · have hq : (r == 0) = true := by simpa using he
                  have hq4 : (r == 4) = false := by rw [he]; rfl
                  have HB' := Lib.hid hB'
                  clear he hB' HN
                  go_wp2_with (at_builtin; refine wpList_append_own_at _ rfl _ _ 37 rfl w1.heap.size 45 i1 (.slice none 0 0) 1 24 Try.underlying37 HIn.out.1 HIn.out.2.1 HIn.out.2.2.1 HIn.out.2.2.2 rfl (by decide) _ _ _ rfl HV3.out ⟨wj.heap.size, 0, none⟩ 1 1 [.slice A7' j c7'] rfl rfl (cells_newR1 _ _ _) (by simp [Value.oneCell']) (by unfold maxLen; omega) (by omega) (by simp; omega) ?_; intro v2 w9 hown hgr _ hat; have HS9 : Hid (LSt w1 w1.heap.size b6 2 9 4 M0 L' w9) := Lib.hid (HS3.out.grown HV3.out (Nat.le_refl _) (by decide) (by decide) hgr); have HQ := Lib.hid (And.intro hown hgr); clear hown hgr hat)
                  go_roundw
                  case rel =>
                    refine ⟨k2 + 1, L', gs ++ [gD 19 j P], by omega, rfl, by go_num, HB'.out, by rw [List.length_append, ← HLen.out]; simp; have := HGn.out; omega, fun q => by simp at q, ?_, HS9.out⟩
                    exact HB3.out.close (by rw [← HLen.out]; have := HL2.out.1; omega) (fun vs' hv => by
                      rw [← HLen.out] at hv ⊢
                      rw [own_same hv HV3.out]
                      exact HQ.out.1) HQ.out.2
                  case measure => simp [intOf]; omega
                · have hq : (r == 0) = false := by rw [he4]; rfl
                  have hq4 : (r == 4) = true := by rw [he4]; rfl
                  have HF := Lib.hid hF
                  have hgn8 : gn ≤ 8 := by have := HL2.out.1; omega
                  clear he4 hF HN
                  have ho1 : (wj.alloc (.cells #[] 45)).ownsRow wj.heap.size 45 1 (.slice (some ⟨wj.heap.size, 0, none⟩) 0 0) 0 [] :=
                    ⟨rfl, .inr ⟨wj.heap.size, 0, #[], rfl, Nat.le_refl _, World.alloc_heap_new _ _, Nat.le_refl _, by unfold maxLen; omega, rfl, rfl⟩⟩
                  have la : Below wj.heap.size wj (wj.alloc (.cells #[] 45)) := (Below.refl _ _).alloc (Nat.le_refl _) _
                  have HO1 := Lib.hid ho1
                  have HV1 := Lib.hid (own_belowR HV.out la)
                  have LA := Lib.hid la
                  clear ho1 la
                  by_cases hg0 : gn = 0
                  · subst hg0
                    have hnil' := HNil.out (List.eq_nil_of_length_eq_zero HLen.out.symm)
                    injection hnil' with hz1 hz2 hz3
                    subst hz1 hz3
                    clear hz2
                    have hvs0 : vs = [] := List.eq_nil_of_length_eq_zero (by have := HV.out.1; omega)
                    subst hvs0
                    have he1 := fun W g c => Lib.run_eql_slice_nil (P := Try.prog) W 37 45 (some ⟨g, 0, none⟩) (0 + 1) c 0 0 Try.underlying37
                    go_wp2_with (first
                      | (at_builtin; refine wpList_append_own_none rfl _ _ 37 rfl wj.heap.size 45 i1 1 Try.underlying37 HIn.out.1 HIn.out.2.2.1 _ 0 [] rfl HO1.out rfl ?_)
                      | (at_builtin; refine wpList_append_own_at _ rfl _ _ 37 rfl wj.heap.size 45 i1 (.slice none 0 0) 1 24 Try.underlying37 HIn.out.1 HIn.out.2.1 HIn.out.2.2.1 HIn.out.2.2.2 rfl (by decide) _ 0 [] rfl (own_belowR HO1.out ((Below.refl _ _).alloc (Nat.le_refl _) _)) ⟨wj.heap.size + 1, 0, none⟩ 1 1 [.slice A7' j c7'] rfl rfl (cells_newR1' _ _ _ _ (World.size_alloc _ _)) (by simp [Value.oneCell']) (by unfold maxLen; omega) (by omega) (by simp; omega) ?_; intro v9 w9 hown hgr _ hat; have LB := Lib.hid (((LA.out.alloc (by simp) _).grown hgr (by simp; omega) (fun q hq => by cases hq; exact Nat.le_refl _))); obtain ⟨g9, c9, rfl⟩ := ownsRow_succ (k := 0) hown; have HQ : Hid (w9.ownsRow wj.heap.size 45 1 (.slice (some ⟨g9, 0, none⟩) (0 + 1) c9) (0 + 1) ([] ++ [.slice A7' j c7'])) := Lib.hid hown; have HS9 := Lib.hid (HSj.out.below LB.out); obtain ⟨x1, x2, x3, x4⟩ := BW.out _ HS9.out.from0; clear hown hgr hat))
                    obtain ⟨X2, hgd2, hX2⟩ := HGl.out.copy (by rw [← HLen.out]; omega) LB.out (fun vs' hv => by
                      rw [← HLen.out] at hv ⊢
                      rw [own_same hv HV.out]
                      exact own_lower (by simpa using HQ.out) hsz)
                    have HGD2 := Lib.hid (And.intro hgd2 hX2)
                    have HG9 := Lib.hid (HGl.out.below LB.out)
                    have HU := Lib.hid (HF.out.crash fa nF)
                    have KC := Lib.hid (lst_crash (A := AF) (n := nF) (c := cF) (fa := fa) HS9.out HIw.out (Nat.le_refl _))
                    clear hgd2 hX2
                    go_wp2_with fail
                    refine KC.out.mono ?_
                    rintro e w10 ⟨rfl, s10, k10⟩
                    have S10 := Lib.hid s10
                    have HY10 := Lib.hid (k10.y HS9.out.blk)
                    have G10 := Lib.hid (HG9.out.keepY HY10.out)
                    have GD10 := Lib.hid (HGD2.out.1.keepY HGD2.out.2 (own_typed HQ.out rfl).2 HY10.out)
                    clear s10 k10 x1 x2 x3 x4
                    go_wp2_with fail
                    refine (lst_read 2 9 4 S10.out HU.out.1.d (by omega) (by omega) (by show 2 + 9 ≤ (crashS L'.S fa nF).N; rw [HU.out.2.2]; omega) (by omega) (by omega)).mono ?_
                    intro e w11 hr11
                    obtain ⟨kr, vr, hkr, hchr, hnor, rfl, hlgs, l11⟩ := read_lgs (by rw [HU.out.2.1]; omega) (by omega) hr11
                    have S11 := Lib.hid (S10.out.below l11)
                    obtain ⟨X, hgd⟩ := (G10.out.below l11).gd
                    have HB2 := Lib.hid (GD10.out.below l11)
                    have HA1 := Lib.hid hgd
                    rcases HF.out.read hkr hchr hnor with hrd | hrd
                    · rw [hrd] at hlgs
                      clear hrd
                      obtain ⟨Ar, cr, rfl, hlr⟩ := hlgs.len
                      have KT := Lib.hid (told_any _ _ gs gs X w11 hlgs HA1.out)
                      rw [show Sm gs gs = true from decide_eq_true rfl] at KT
                      clear hr11 hchr hnor hlgs hgd l11
                      go_wp2_with (first
                        | (go_at_call 23; refine KT.out.mono ?_; rintro e w12 ⟨rfl, l12⟩; have S12 := Lib.hid (S11.out.below l12); clear l12)
                        | (go_at_call 14; refine (lawake_any _).mono ?_; rintro e w13 ⟨rfl, l13⟩))
                      go_ret
                      exact ⟨rfl, L1.out.trans ((S12.out.from0.trans (l13.mono S12.out.from0.size)).mono L1.out.size)⟩
                    · rw [hrd] at hlgs
                      clear hrd
                      obtain ⟨gs2, hgs2⟩ : ∃ x, x = gs ++ [gD 19 j P] := ⟨_, rfl⟩
                      rw [← hgs2] at hlgs HB2
                      have hne2 : Sm gs2 gs = false := decide_eq_false fun q => by rw [hgs2] at q; have := congrArg List.length q; simp at this
                      obtain ⟨Ar, cr, rfl, hlr⟩ := hlgs.len
                      have KT := Lib.hid (told_any _ _ gs2 gs X w11 hlgs HA1.out)
                      have HLg := Lib.hid hlgs
                      rw [hne2] at KT
                      have KT2 := Lib.hid (show ∀ W, Below w11.heap.size w11 W → Calls Try.prog 23 #[.slice Ar gs2.length cr, .slice (some ⟨g9, 0, none⟩) (0 + 1) c9] W fun e w' => e = .returned (.bool true) ∧ Below W.heap.size W w' from fun W l => (told_any _ _ gs2 gs2 X2 W (HLg.out.below l) (HB2.out.below l)).mono fun e w' ⟨h1, h2⟩ => ⟨by rw [h1, show Sm gs2 gs2 = true from decide_eq_true rfl], h2⟩)
                      clear hr11 hchr hnor hlgs hgd l11 hne2 hgs2
                      go_wp2_with fail
                      refine KT.out.mono ?_
                      rintro e w12 ⟨rfl, l12⟩
                      have S12 := Lib.hid (S11.out.below l12)
                      have L12 := Lib.hid l12
                      clear l12
                      go_wp2_with (first
                        | (go_at_call 23; refine (KT2.out _ L12.out).mono ?_; rintro e w13 ⟨rfl, l13⟩; have S13 := Lib.hid (S12.out.below l13); clear l13)
                        | (go_at_call 14; refine (lawake_any _).mono ?_; rintro e w14 ⟨rfl, l14⟩))
                      go_ret
                      exact ⟨rfl, L1.out.trans ((S13.out.from0.trans (l14.mono S13.out.from0.size)).mono L1.out.size)⟩
                  · obtain ⟨gm, rfl⟩ : ∃ m, gn = m + 1 := ⟨gn - 1, by omega⟩
                    obtain ⟨q5, cq5, hq5⟩ := ownsRow_succ HV.out
                    injection hq5 with hz1 hz2 hz3
                    subst hz1 hz3
                    clear hz2
                    have he1 := fun W g c => Lib.run_eql_slice_nil (P := Try.prog) W 37 45 (some ⟨g, 0, none⟩) (gm + 1 + 1) c 0 0 Try.underlying37
                    have HNw := Lib.hid (show ∀ (q : Nat) (u : Value), vs[q]? = some u → (wj.alloc (.cells #[] 45)).cell? ((⟨q5, 0, none⟩ : Addr).add q) = some u from fun q u hu => by
                      rw [Addr.add_mid, Nat.zero_add, ← hu]
                      exact World.ownsRow.cellAt (w := wj.alloc (.cells #[] 45)) (base := w1.heap.size) (e := 45) (size := 1) HV1.out q (by have := (List.getElem?_eq_some_iff.1 hu).1; have := HV.out.1; omega))
                    have HOne := Lib.hid (show ∀ u ∈ vs, u.oneCell' = true from fun u hu => HGl.out.one (by rw [← HLen.out]; exact HV.out) u hu)
                    have hvl := HV.out.1
                    go_wp2_with (first
                      | (at_builtin; refine wpList_append_own_at _ rfl _ _ 37 rfl wj.heap.size 45 i1 (.slice none 0 0) 1 24 Try.underlying37 HIn.out.1 HIn.out.2.1 HIn.out.2.2.1 HIn.out.2.2.2 rfl (by decide) _ 0 [] rfl HO1.out ⟨q5, 0, none⟩ (gm + 1) _ vs rfl hvl HNw.out HOne.out (by unfold maxLen; omega) (by omega) (by simp) ?_; (intro v8 w8 hown hgr _ hat; rw [Nat.zero_add, List.nil_append] at hown; obtain ⟨A8, c8, rfl⟩ := own_sl hown; have L8 := Lib.hid (LA.out.grown hgr (by simp) (fun q hq => by cases hq; exact Nat.le_refl _)); have HO8 := Lib.hid hown; have hs8 := hgr.size; clear hown hgr hat))
                      | (at_builtin; refine wpList_append_own_at _ rfl _ _ 37 rfl wj.heap.size 45 i1 (.slice none 0 0) 1 24 Try.underlying37 HIn.out.1 HIn.out.2.1 HIn.out.2.2.1 HIn.out.2.2.2 rfl (by decide) _ (gm + 1) vs rfl (own_belowR HO8.out ((Below.refl _ _).alloc (Nat.le_refl _) _)) ⟨w8.heap.size, 0, none⟩ 1 1 [.slice A7' j c7'] rfl rfl (cells_newR1' _ _ _ _ rfl) (by simp [Value.oneCell']) (by unfold maxLen; omega) (by omega) (by have := L8.out.size; simp; omega) ?_; intro v9 w9 hown hgr _ hat; have LB := Lib.hid (((L8.out.alloc L8.out.size _).grown hgr (by have := L8.out.size; simp; omega) (fun q hq => (HO8.out.lt q hq).1))); obtain ⟨g9, c9, rfl⟩ := ownsRow_succ (k := gm + 1) hown; have HQ : Hid (w9.ownsRow wj.heap.size 45 1 (.slice (some ⟨g9, 0, none⟩) (gm + 1 + 1) c9) (gm + 1 + 1) (vs ++ [.slice A7' j c7'])) := Lib.hid hown; have HS9 := Lib.hid (HSj.out.below LB.out); obtain ⟨x1, x2, x3, x4⟩ := BW.out _ HS9.out.from0; clear hown hgr hat))
                    obtain ⟨X2, hgd2, hX2⟩ := HGl.out.copy (by rw [← HLen.out]; omega) LB.out (fun vs' hv => by
                      rw [← HLen.out] at hv ⊢
                      rw [own_same hv HV.out]
                      exact own_lower (by simpa using HQ.out) hsz)
                    have HGD2 := Lib.hid (And.intro hgd2 hX2)
                    have HG9 := Lib.hid (HGl.out.below LB.out)
                    have HU := Lib.hid (HF.out.crash fa nF)
                    have KC := Lib.hid (lst_crash (A := AF) (n := nF) (c := cF) (fa := fa) HS9.out HIw.out (Nat.le_refl _))
                    clear hgd2 hX2
                    go_wp2_with fail
                    refine KC.out.mono ?_
                    rintro e w10 ⟨rfl, s10, k10⟩
                    have S10 := Lib.hid s10
                    have HY10 := Lib.hid (k10.y HS9.out.blk)
                    have G10 := Lib.hid (HG9.out.keepY HY10.out)
                    have GD10 := Lib.hid (HGD2.out.1.keepY HGD2.out.2 (own_typed HQ.out rfl).2 HY10.out)
                    clear s10 k10 x1 x2 x3 x4
                    go_wp2_with fail
                    refine (lst_read 2 9 4 S10.out HU.out.1.d (by omega) (by omega) (by show 2 + 9 ≤ (crashS L'.S fa nF).N; rw [HU.out.2.2]; omega) (by omega) (by omega)).mono ?_
                    intro e w11 hr11
                    obtain ⟨kr, vr, hkr, hchr, hnor, rfl, hlgs, l11⟩ := read_lgs (by rw [HU.out.2.1]; omega) (by omega) hr11
                    have S11 := Lib.hid (S10.out.below l11)
                    obtain ⟨X, hgd⟩ := (G10.out.below l11).gd
                    have HB2 := Lib.hid (GD10.out.below l11)
                    have HA1 := Lib.hid hgd
                    rcases HF.out.read hkr hchr hnor with hrd | hrd
                    · rw [hrd] at hlgs
                      clear hrd
                      obtain ⟨Ar, cr, rfl, hlr⟩ := hlgs.len
                      have KT := Lib.hid (told_any _ _ gs gs X w11 hlgs HA1.out)
                      rw [show Sm gs gs = true from decide_eq_true rfl] at KT
                      clear hr11 hchr hnor hlgs hgd l11
                      go_wp2_with (first
                        | (go_at_call 23; refine KT.out.mono ?_; rintro e w12 ⟨rfl, l12⟩; have S12 := Lib.hid (S11.out.below l12); clear l12)
                        | (go_at_call 14; refine (lawake_any _).mono ?_; rintro e w13 ⟨rfl, l13⟩))
                      go_ret
                      exact ⟨rfl, L1.out.trans ((S12.out.from0.trans (l13.mono S12.out.from0.size)).mono L1.out.size)⟩
                    · rw [hrd] at hlgs
                      clear hrd
                      obtain ⟨gs2, hgs2⟩ : ∃ x, x = gs ++ [gD 19 j P] := ⟨_, rfl⟩
                      rw [← hgs2] at hlgs HB2
                      have hne2 : Sm gs2 gs = false := decide_eq_false fun q => by rw [hgs2] at q; have := congrArg List.length q; simp at this
                      obtain ⟨Ar, cr, rfl, hlr⟩ := hlgs.len
                      have KT := Lib.hid (told_any _ _ gs2 gs X w11 hlgs HA1.out)
                      have HLg := Lib.hid hlgs
                      rw [hne2] at KT
                      have KT2 := Lib.hid (show ∀ W, Below w11.heap.size w11 W → Calls Try.prog 23 #[.slice Ar gs2.length cr, .slice (some ⟨g9, 0, none⟩) (gm + 1 + 1) c9] W fun e w' => e = .returned (.bool true) ∧ Below W.heap.size W w' from fun W l => (told_any _ _ gs2 gs2 X2 W (HLg.out.below l) (HB2.out.below l)).mono fun e w' ⟨h1, h2⟩ => ⟨by rw [h1, show Sm gs2 gs2 = true from decide_eq_true rfl], h2⟩)
                      clear hr11 hchr hnor hlgs hgd l11 hne2 hgs2
                      go_wp2_with fail
                      refine KT.out.mono ?_
                      rintro e w12 ⟨rfl, l12⟩
                      have S12 := Lib.hid (S11.out.below l12)
                      have L12 := Lib.hid l12
                      clear l12
                      go_wp2_with (first
                        | (go_at_call 23; refine (KT2.out _ L12.out).mono ?_; rintro e w13 ⟨rfl, l13⟩; have S13 := Lib.hid (S12.out.below l13); clear l13)
                        | (go_at_call 14; refine (lawake_any _).mono ?_; rintro e w14 ⟨rfl, l14⟩))
                      go_ret
                      exact ⟨rfl, L1.out.trans ((S13.out.from0.trans (l14.mono S13.out.from0.size)).mono L1.out.size)⟩
        · obtain rfl : k2 = n2 := by omega
          obtain ⟨A5, c5, h5⟩ := HGb.out.len.1
          have hul := HOk2.out.crash fa nF
          have HU := Lib.hid hul
          have KC := Lib.hid (lst_crash (A := AF) (n := nF) (c := cF) (fa := fa) HS2.out HIw.out (Nat.le_refl _))
          have he1 := fun W => Lib.run_eql_slice_nil (P := Try.prog) W 37 45 none 0 0 0 0 Try.underlying37
          clear hul
          subst h5
          go_wp2_with fail
          refine KC.out.mono ?_
          rintro e w8 ⟨rfl, s8, k8⟩
          have S8 := Lib.hid s8
          have G8 := Lib.hid (HGb.out.keepY (k8.y HS2.out.blk))
          clear s8 k8
          go_wp2_with fail
          refine (lst_read 2 9 4 S8.out HU.out.1.d (by omega) (by omega) (by show 2 + 9 ≤ (crashS L.S fa nF).N; rw [HU.out.2.2.1]; omega) (by omega) (by omega)).mono ?_
          intro e w9 hr9
          obtain ⟨kr, vr, hkr, hchr, hnor, rfl, hlgs, l9⟩ := read_lgs (by rw [HU.out.2.1]; omega) (by omega) hr9
          rw [read_cont HU.out.2.2.2.1 HU.out.2.2.2.2 HOk2.out.al.nx hkr hchr hnor] at hlgs
          obtain ⟨Ar, cr, rfl, hlr⟩ := hlgs.len
          obtain ⟨X, hgd⟩ := (G8.out.below l9).gd
          have KT := Lib.hid (told_any _ _ gs gs X w9 hlgs hgd)
          have S9 := Lib.hid (S8.out.below l9)
          rw [show Sm gs gs = true from decide_eq_true rfl] at KT
          clear hr9 hchr hnor hlgs hgd l9
          go_wp2_with (first
            | (go_at_call 23; refine KT.out.mono ?_; rintro e w10 ⟨rfl, l10⟩; have S10 := Lib.hid (S9.out.below l10); clear l10)
            | (go_at_call 14; refine (lawake_any _).mono ?_; rintro e w11 ⟨rfl, l11⟩))
          go_ret
          exact ⟨rfl, L1.out.trans ((S10.out.from0.trans (l11.mono S10.out.from0.size)).mono L1.out.size)⟩
theorem logWhole_walk (A : Option Addr) (n c : Nat) (G : Nat → SlD) (Q : Nat → Nat → PutD) (A2 : Option Addr) (n2 c2 : Nat) (G2 : Nat → SlD) (Q2 : Nat → Nat → PutD) (dn : Int) (AF : Option Addr) (nF cF : Nat) (fa : Nat → Int) (w : World) (hG : PutsG w A n G Q) (hG2 : PutsG w A2 n2 G2 Q2) (hdn : dn ≤ 9223372036854775807) (hI : Ints w AF nF fa) :
    Calls Try.prog 5 #[.agg #[.slice A n c, .slice A2 n2 c2, .int .i64 dn, .slice AF nF cF]] w fun e w' => e = .returned (.bool true) ∧ Below w.heap.size w w' := @logWhole_gen ⟨fun _ => True⟩ A n c G Q A2 n2 c2 G2 Q2 dn AF nF cF fa w hG hG2 hdn hI fun _ _ => trivial
end Go.Proofs.Ytdbfmllcapikkaa
