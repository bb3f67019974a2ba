/- word's signs: an iterator over a text's signs: its contract. -/
import Derived.Test.YtoghdllppecblaaDoorQFold
import Derived.Lib.OthersKept
import Derived.Lib.TrimU
import Derived.Lib.QuoteLoop
namespace Go.Proofs.YtoghdllppecblaaDoor
open Go.RowKit
set_option linter.unusedVariables false
set_option linter.unusedSimpArgs false

open Go.Shelf
attribute [local go_sem] Oper.semAt_some
/-- The sign that begins at a place of a text: what it becomes, where it begins, behind which byte it ends. -/
structure Sg where
  text : List UInt8
  a : Nat
  b : Nat
def dec (l : List UInt8) (p : Nat) : Nat × Nat := Lib.decodeL (l.drop p)
def sgnOf (l : List UInt8) (p : Nat) : Sg := ⟨foldL (dec l p).1, p, p + rlN (dec l p).1⟩
/-- The places at which a text's signs begin, from one on. -/
def posF (l : List UInt8) : Nat → Nat → List Nat
  | 0, _ => []
  | f + 1, p => if p < l.length then p :: posF l f (p + (dec l p).2) else []
def posL (l : List UInt8) : List Nat := posF l l.length 0
def encSg (l : List UInt8) (p : Nat) : Array Value := #[.agg #[.string (mkB (sgnOf l p).text), .int .i64 ((sgnOf l p).a : Nat), .int .i64 ((sgnOf l p).b : Nat)]]
theorem dec_model (l : List UInt8) (p : Nat) : Utf8.decode (mkB l) p = dec l p := by
  unfold dec
  rw [← Lib.decodeL_drop (mkB l) p]
  simp [mkB]
theorem dec_w (l : List UInt8) (p : Nat) : 1 ≤ (dec l p).2 := Lib.decodeL_width _
theorem dec_rune (l : List UInt8) (p : Nat) : (dec l p).1 < 55296 ∨ (57343 < (dec l p).1 ∧ (dec l p).1 ≤ 1114111) := by
  unfold dec
  rw [Lib.decodeL_N]
  exact Lib.decodeN_valid _ _ _ _ _ (UInt8.toNat_lt _)
theorem rlN_le (c : Nat) : 1 ≤ rlN c ∧ rlN c ≤ 4 := by
  unfold rlN
  repeat' split
  all_goals decide
theorem posF_end (l : List UInt8) (f p : Nat) (h : ¬ p < l.length) : posF l f p = [] := by cases f <;> simp [posF, h]
/-- What a round that goes on keeps. -/
def KpS (n₀ : Nat) (A B : World) : Prop := Below n₀ A B ∧ KeepsWalks A B
theorem KpS.t {n₀ : Nat} {A B C : World} (h : KpS n₀ A B) (k : KpS n₀ B C) : KpS n₀ A C := ⟨h.1.trans k.1, h.2.trans k.2⟩
theorem KpS.b {n₀ : Nat} {w : World} (hn : n₀ ≤ w.heap.size) (W : World) (l : Nat) (o o' : Obj) (hl : w.heap.size ≤ l) (h : W.heap[l]? = some o) (h1 : o.isCells = false) (h2 : o.isWalk = false) : KpS n₀ W (W.putObj l o') :=
  ⟨belowK_b hn W l o o' hl h h1 h2, walksK_b (w := w) W l o o' hl h h1 h2⟩
theorem iter_grown (w : World) (k : Nat) (s : ByteArray) (p : Nat) : w.grownBy (w.iterAt k s p) (some k) where
  os := rfl
  tape := rfl
  output := rfl
  size := by rw [Lib.iterAt_size]; exact Nat.le_refl _
  block i _ hne := Lib.iterAt_other w k i s p (fun e => hne (by rw [e]))
theorem iterPos_of' {w : World} {k : Nat} {s : ByteArray} {p : Nat} (h : w.heap[k]? = some (.stringIter s p)) : w.iterPos k = p := by simp [World.iterPos, h]
set_option maxRecDepth 100000 in
set_option maxHeartbeats 8000000 in
theorem signs1_in (n : Nat) (hn : 2 ≤ n) (l : Nat) (w0 : World) (Bs : Nat) (t : List UInt8) (ht : t.length ≤ 1000000) (hT : TabT w0) (J Jx : List Nat → World → Prop) (W : World) (hJ : AbidesFrom W.heap.size J)
    (hY : ∀ pre x W1, J pre W1 → pre.length < t.length → YieldAt Fence.wide (n - 1) Tryd.prog l (encSg t x) W1 fun e W' =>
      (e = .returned (.bool true) ∧ J (pre ++ [x]) W' ∧ KpS w0.heap.size W1 W') ∨ (e = .returned (.bool false) ∧ Jx (pre ++ [x]) W'))
    (hB0 : Below w0.heap.size w0 W) (hBs : W.cell? ⟨Bs, 0, none⟩ = some (.string (mkB t))) (h0 : J [] W) :
    CallsIn Fence.wide n Tryd.prog 26 #[.func (.yield l) #[] #[], .pointer (some ⟨Bs, 0, none⟩)] W fun e W' => (∃ v, e = .returned v) ∧
      ((∃ ys, ys = posL t ∧ J ys W') ∨ (∃ pre, True ∧ Jx pre W')) := by
  refine callsIn_of_wp Tryd.func26 rfl trivial ?_ rfl
  simp only [Tryd.ntmps26, List.size_toArray, List.length_cons, List.length_nil, Nat.reduceAdd, Nat.reduceSub, Array.replicate_succ, Array.replicate_zero, List.push_toArray, List.append_toArray, List.nil_append, List.cons_append]
  have hn1 : 1 ≤ n := by omega
  have HY := Lib.hid hY
  have HJ := Lib.hid hJ
  have H0 := Lib.hid h0
  have HT := Lib.hid hT
  have HB := Lib.hid hB0
  clear hY hJ h0 hT hB0
  gi_wp2
  gi_loopw [] (fun wr => (∃ pre : List Nat, ∃ p : Nat, ∃ f : Nat, wr.heap[W.heap.size]? = some (.stringIter (mkB t) p) ∧ pre ++ posF t f p = posL t ∧ t.length ≤ p + f ∧ pre.length ≤ p ∧ J pre wr) ∧ Below w0.heap.size w0 wr ∧ W.heap.size < wr.heap.size)
    (fun wr => t.length - wr.iterPos W.heap.size)
  case atStart => exact ⟨⟨[], 0, t.length, World.iter_heap W (mkB t) 0, rfl, by omega, by simp, HJ.out _ _ _ none H0.out (World.grownBy_alloc W _ none) (by simp)⟩, HB.out.alloc HB.out.size _, (by show W.heap.size < (W.alloc _).heap.size; simp)⟩
  case round =>
    obtain ⟨⟨pre, p, f, hit, hpre, hpf, hpl, hJs⟩, hB1, hsz⟩ := hrel
    have HPre := Lib.hid hpre
    have HB1 := Lib.hid hB1
    have HJs := Lib.hid hJs
    clear hpre hB1 hJs
    by_cases hlt : p < t.length
    · have hps : p < (mkB t).size := by rw [mkB_size]; exact hlt
      have hnx : ∀ ty, (Instr.next (.pointer (some ⟨W.heap.size, 0, none⟩)) true ty).run Tryd.prog wr = _ := fun ty => Lib.run_next_any_at wr W.heap.size (mkB t) p ty hit hps
      rw [dec_model] at hnx
      have hm0 : wr.iterPos W.heap.size = p := iterPos_of' hit
      have hwd := dec_w t p
      have hrn := dec_rune t p
      obtain ⟨R, hR⟩ : ∃ R, (dec t p).1 = R := ⟨_, rfl⟩
      obtain ⟨K, hK⟩ : ∃ K, (dec t p).2 = K := ⟨_, rfl⟩
      obtain ⟨f', rfl⟩ : ∃ f', f = f' + 1 := ⟨f - 1, by omega⟩
      have HP2 := Lib.hid (show (pre ++ [p]) ++ posF t f' (p + K) = posL t by rw [← HPre.out, posF, if_pos hlt, hK, List.append_assoc]; rfl)
      have hit2 := Lib.iterAt_heap wr W.heap.size (mkB t) p (p + K) hit
      have HJ2 := Lib.hid (HJ.out _ _ _ (some W.heap.size) HJs.out (iter_grown wr W.heap.size (mkB t) (p + K)) (fun r e => by cases e; exact ⟨Nat.le_refl _, _, hit, rfl⟩))
      have HB2 := Lib.hid (Lib.below_iterAt HB1.out (k := W.heap.size) HB.out.size (mkB t) (p + K))
      have hsz2 : W.heap.size < (wr.iterAt W.heap.size (mkB t) (p + K)).heap.size := by rw [Lib.iterAt_size]; exact hsz
      rw [hR, hK] at hnx
      rw [hK] at hwd
      rw [hR] at hrn
      have HE := Lib.hid (show encSg t p = #[.agg #[.string (mkB (foldL R)), .int .i64 (p : Nat), .int .i64 ((p : Int) + (rlN R : Nat))]] by unfold encSg sgnOf; rw [hR]; rfl)
      obtain ⟨W2, hW2⟩ : ∃ W2, wr.iterAt W.heap.size (mkB t) (p + K) = W2 := ⟨_, rfl⟩
      rw [hW2] at hnx hit2 HJ2 HB2 hsz2
      have KF := Lib.hid (fold_any R (by omega) W2 (rangeAt_below HT.out HB2.out))
      have KR := Lib.hid fun V => runeLen_any R hrn V
      have hrl := rlN_le R
      have hw1 : IntKind.i64.wrap ((p : Int) + ((rlN R : Nat) : Int)) = ((p + rlN R : Nat) : Int) := by rw [IntWalk.i64_in _ (by omega)]; omega
      have HMs := Lib.hid (And.intro hm0 (And.intro hlt hwd))
      clear hrl hrn hR hK hW2 hit hps hm0 hlt hwd
      gi_wp2_with (first
        | (refine ⟨trivial, ?_⟩; gi_at_call 8; refine CallsIn.mono (callsIn_wide.2 KF.out) ?_; rintro _ w3 ⟨rfl, l3⟩; have L3 := Lib.hid l3; clear l3)
        | (refine ⟨trivial, ?_⟩; gi_at_call 27; refine CallsIn.mono (callsIn_wide.2 (KR.out _)) ?_; rintro _ w4 ⟨rfl, hw4⟩; subst hw4))
      obtain ⟨fn, tmps, assign, body, hy, hRd⟩ := HY.out pre p w4 (HJ.out _ _ _ none HJ2.out (grown_below L3.out) (by simp)) (by have := HMs.out.2.1; omega)
      rw [HE.out] at hy
      have HR := Lib.hid hRd
      clear hRd
      rw [hy]
      refine ⟨fun _ => hn1, HR.out.mono ?_⟩
      have hi4 := (L3.out.block W.heap.size hsz2).trans hit2
      have hs4 := L3.out.size
      have HB4 := Lib.hid (HB2.out.trans (L3.out.mono HB2.out.size))
      rintro e W3 (⟨rfl, hJ3, hk3⟩ | ⟨rfl, hJx3⟩)
      · have HJ3 := Lib.hid hJ3
        have hi5 := hk3.2.same _ _ hi4 rfl
        have HB5 := Lib.hid (HB4.out.trans hk3.1)
        have hs5 := hk3.2.size
        have hm5 := iterPos_of' hi5
        clear hJ3 hk3 hy hnx hit2 hw1 hi4
        gi_wp2
        have h6 := HMs.out
        exact ⟨⟨⟨pre ++ [p], p + K, f', hi5, HP2.out, by omega, by simp; omega, HJ3.out⟩, HB5.out, by omega⟩, by rw [hm5, h6.1]; omega⟩
      · have HJX := Lib.hid hJx3
        clear hJx3 hy hnx hit2 hw1 hi4
        gi_wp2
        refine bodyPost_ret (results_none rfl _ _ _) rfl ?_
        exact ⟨⟨_, rfl⟩, .inr ⟨_, trivial, HJX.out⟩⟩
    · have hps : ¬ p < (mkB t).size := by rw [mkB_size]; exact hlt
      have hnx : ∀ ty, (Instr.next (.pointer (some ⟨W.heap.size, 0, none⟩)) true ty).run Tryd.prog wr = _ := fun ty => Lib.run_next_end_at wr W.heap.size (mkB t) p ty hit hps
      have HP := Lib.hid HPre.out
      rw [posF_end t f p hlt, List.append_nil] at HP
      clear hit hps hlt HPre
      gi_wp2
      go_end0
      exact ⟨⟨_, rfl⟩, .inl ⟨_, HP.out, HJs.out⟩⟩
theorem signs_any (t : List UInt8) (w : World) : Calls Tryd.prog 23 #[.string (mkB t)] w fun e w' => e = .returned (.func (.func 26) #[] #[.pointer (some ⟨w.heap.size, 0, none⟩)]) ∧ w' = w.alloc (.cells #[.string (mkB t)] 9) := by
  go_enter Tryd.func23, Tryd.ntmps23
  go_wp2
  go_ret
  exact ⟨rfl, rfl⟩
theorem signs_stops (n : Nat) (hn : 2 ≤ n) (w0 : World) (Bs : Nat) (t : List UInt8) (ht : t.length ≤ 1000000) (hT : TabT w0) (w : World) (hB0 : Below w0.heap.size w0 w) (hBsl : Bs < w.heap.size) (hBs : w.cell? ⟨Bs, 0, none⟩ = some (.string (mkB t))) :
    SeqStopsK Fence.wide n Tryd.prog 26 #[.pointer (some ⟨Bs, 0, none⟩)] (encSg t) (KpS w0.heap.size) (fun ys => ys = posL t) (fun _ => True) t.length w := fun l J Jx W hW hJ _ hY h0 =>
  signs1_in n hn l w0 Bs t ht hT J Jx W hJ hY (hB0.trans (hW.mono hB0.size)) (kp' hW hBsl hBs) h0
end Go.Proofs.YtoghdllppecblaaDoor
