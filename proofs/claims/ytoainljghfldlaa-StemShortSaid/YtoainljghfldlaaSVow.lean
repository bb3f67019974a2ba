/- stem's vowels: an iterator over a text's signs, which of them are vowels: its contract. -/
import Derived.Test.YtoainljghfldlaaSPlain
namespace Go.Proofs.Ytoainljghfldlaa
open Go.RowKit
set_option linter.unusedVariables false
set_option linter.unusedSimpArgs false

open Go.Shelf
attribute [local go_sem] Oper.semAt_some
theorem KpS.t {n₀ : Nat} {A B C : World} (h : KpS n₀ A B) (k : KpS n₀ B C) : KpS n₀ A C := ⟨h.1.trans k.1, h.2.trans k.2⟩
theorem KpS.b {n₀ : Nat} {w : World} (hn : n₀ ≤ w.heap.size) (W : World) (l : Nat) (o o' : Obj) (hl : w.heap.size ≤ l) (h : W.heap[l]? = some o) (h1 : o.isCells = false) (h2 : o.isWalk = false) : KpS n₀ W (W.putObj l o') :=
  ⟨belowK_b hn W l o o' hl h h1 h2, walksK_b (w := w) W l o o' hl h h1 h2⟩
abbrev encV (b : Bool) : Array Value := #[.bool b]
theorem ieqF (R : Nat) (n : Int) (h : (R : Int) ≠ n) : ((R : Int) == n) = false := by simpa using h
theorem ieqT (R : Nat) (n : Int) (h : (R : Int) = n) : ((R : Int) == n) = true := by simpa using h
/-- What the tests of a sign tell. -/
def Tests (R : Nat) (a e i o u y : Bool) : Prop := ((R : Int) == 97) = a ∧ ((R : Int) == 101) = e ∧ ((R : Int) == 105) = i ∧ ((R : Int) == 111) = o ∧ ((R : Int) == 117) = u ∧ ((R : Int) == 121) = y
theorem tests_of (R : Nat) (ot : Bool) :
    (Tests R true false false false false false ∧ vwB R ot = true) ∨ (Tests R false true false false false false ∧ vwB R ot = true) ∨ (Tests R false false true false false false ∧ vwB R ot = true) ∨
    (Tests R false false false true false false ∧ vwB R ot = true) ∨ (Tests R false false false false true false ∧ vwB R ot = true) ∨ (Tests R false false false false false true ∧ vwB R ot = ot) ∨
    (Tests R false false false false false false ∧ vwB R ot = false) := by
  by_cases h1 : R = 97
  · subst h1; exact .inl ⟨by unfold Tests; decide, by simp [vwB, isV]⟩
  by_cases h2 : R = 101
  · subst h2; exact .inr (.inl ⟨by unfold Tests; decide, by simp [vwB, isV]⟩)
  by_cases h3 : R = 105
  · subst h3; exact .inr (.inr (.inl ⟨by unfold Tests; decide, by simp [vwB, isV]⟩))
  by_cases h4 : R = 111
  · subst h4; exact .inr (.inr (.inr (.inl ⟨by unfold Tests; decide, by simp [vwB, isV]⟩)))
  by_cases h5 : R = 117
  · subst h5; exact .inr (.inr (.inr (.inr (.inl ⟨by unfold Tests; decide, by simp [vwB, isV]⟩))))
  by_cases h6 : R = 121
  · subst h6; exact .inr (.inr (.inr (.inr (.inr (.inl ⟨by unfold Tests; decide, by simp [vwB, isV]⟩)))))
  · exact .inr (.inr (.inr (.inr (.inr (.inr ⟨⟨ieqF _ _ (by omega), ieqF _ _ (by omega), ieqF _ _ (by omega), ieqF _ _ (by omega), ieqF _ _ (by omega), ieqF _ _ (by omega)⟩, by simp [vwB, isV, h1, h2, h3, h4, h5, h6]⟩)))))
set_option maxRecDepth 100000 in
set_option maxHeartbeats 16000000 in
theorem vow1_in (n : Nat) (hn : 2 ≤ n) (l : Nat) (w0 : World) (Bs : Nat) (t : List UInt8) (ht : t.length ≤ 1000000) (J Jx : List Bool → World → Prop) (W : World) (hJ : AbidesFrom W.heap.size J)
    (hY : ∀ pre x W1, J pre W1 → pre.length < t.length → YieldAt Fence.wide (n - 1) Try.prog l (encV x) W1 fun e W' =>
      (e = .returned (.bool true) ∧ J (pre ++ [x]) W' ∧ KpS w0.heap.size W1 W') ∨ (e = .returned (.bool false) ∧ Jx (pre ++ [x]) W'))
    (hB0 : Below w0.heap.size w0 W) (hBs : W.cell? ⟨Bs, 0, none⟩ = some (.string (mkB t))) (h0 : J [] W) :
    CallsIn Fence.wide n Try.prog 15 #[.func (.yield l) #[] #[], .pointer (some ⟨Bs, 0, none⟩)] W fun e W' => (∃ v, e = .returned v) ∧
      ((∃ ys, ys = vowL t ∧ J ys W') ∨ (∃ pre, (∃ sf, vowL t = pre ++ sf) ∧ Jx pre W')) := by
  refine callsIn_of_wp Try.func15 rfl trivial ?_ rfl
  simp only [Try.ntmps15, List.size_toArray, List.length_cons, List.length_nil, Nat.reduceAdd, Nat.reduceSub, Array.replicate_succ, Array.replicate_zero, List.push_toArray, List.append_toArray, List.nil_append, List.cons_append]
  have hn1 : 1 ≤ n := by omega
  have HY := Lib.hid hY
  have HJ := Lib.hid hJ
  have H0 := Lib.hid h0
  have HB := Lib.hid hB0
  clear hY hJ h0 hB0
  gi_wp2
  gi_loopw [3] (fun ov wr => (∃ ot : Bool, ov = .bool ot ∧ ∃ pre : List Bool, ∃ p : Nat, ∃ f : Nat, wr.heap[W.heap.size]? = some (.stringIter (mkB t) p) ∧ pre ++ vowF t f p ot = vowL t ∧ t.length ≤ p + f ∧ pre.length ≤ p ∧ J pre wr) ∧ Below w0.heap.size w0 wr ∧ W.heap.size < wr.heap.size)
    (fun _ wr => t.length - wr.iterPos W.heap.size)
  case atStart => exact ⟨⟨false, rfl, [], 0, t.length, World.iter_heap W (mkB t) 0, rfl, by omega, by simp, HJ.out _ _ _ none H0.out (World.grownBy_alloc W _ none) (by simp)⟩, HB.out.alloc HB.out.size _, (by show W.heap.size < (W.alloc _).heap.size; simp)⟩
  case round =>
    obtain ⟨⟨ot, rfl, pre, p, f, hit, hpre, hpf, hpl, hJs⟩, hB1, hsz⟩ := hrel
    have HPre := Lib.hid hpre
    have HB1 := Lib.hid hB1
    have HJs := Lib.hid hJs
    clear hpre hB1 hJs
    by_cases hlt : p < t.length
    · have hps : p < (mkB t).size := by rw [mkB_size]; exact hlt
      have hnx : ∀ ty, (Instr.next (.pointer (some ⟨W.heap.size, 0, none⟩)) true ty).run Try.prog wr = _ := fun ty => Lib.run_next_any_at wr W.heap.size (mkB t) p ty hit hps
      rw [dec_model] at hnx
      have hm0 : wr.iterPos W.heap.size = p := iterPos_of' hit
      have hwd := dec_w t p
      have hrn := dec_rune t p
      obtain ⟨R, hR⟩ : ∃ R, (dec t p).1 = R := ⟨_, rfl⟩
      obtain ⟨K, hK⟩ : ∃ K, (dec t p).2 = K := ⟨_, rfl⟩
      obtain ⟨f', rfl⟩ : ∃ f', f = f' + 1 := ⟨f - 1, by omega⟩
      have HP2 := Lib.hid (show (pre ++ [vwB R ot]) ++ vowF t f' (p + K) (!vwB R ot) = vowL t by rw [← HPre.out, vowF, if_pos hlt, hK, hR, List.append_assoc]; rfl)
      have hit2 := Lib.iterAt_heap wr W.heap.size (mkB t) p (p + K) hit
      have HJ2 := Lib.hid (HJ.out _ _ _ (some W.heap.size) HJs.out (iter_grown wr W.heap.size (mkB t) (p + K)) (fun r e => by cases e; exact ⟨Nat.le_refl _, _, hit, rfl⟩))
      have HB2 := Lib.hid (Lib.below_iterAt HB1.out (k := W.heap.size) HB.out.size (mkB t) (p + K))
      have hsz2 : W.heap.size < (wr.iterAt W.heap.size (mkB t) (p + K)).heap.size := by rw [Lib.iterAt_size]; exact hsz
      rw [hR, hK] at hnx
      rw [hK] at hwd
      clear hrn hR
      obtain ⟨W2, hW2⟩ : ∃ W2, wr.iterAt W.heap.size (mkB t) (p + K) = W2 := ⟨_, rfl⟩
      rw [hW2] at hnx hit2 HJ2 HB2 hsz2
      have HMs := Lib.hid (And.intro hm0 (And.intro hlt hwd))
      clear hK hW2 hit hps hm0 hlt hwd
      obtain ⟨vv, hvv⟩ : ∃ vv, vwB R ot = vv := ⟨_, rfl⟩
      have hts := tests_of R ot
      rw [hvv] at hts HP2
      have HV := Lib.hid hvv
      clear hvv
      rcases hts with ⟨⟨q1, q2, q3, q4, q5, q6⟩, rfl⟩ | ⟨⟨q1, q2, q3, q4, q5, q6⟩, rfl⟩ | ⟨⟨q1, q2, q3, q4, q5, q6⟩, rfl⟩ | ⟨⟨q1, q2, q3, q4, q5, q6⟩, rfl⟩ | ⟨⟨q1, q2, q3, q4, q5, q6⟩, rfl⟩ | ⟨⟨q1, q2, q3, q4, q5, q6⟩, rfl⟩ | ⟨⟨q1, q2, q3, q4, q5, q6⟩, rfl⟩
      all_goals
        gi_wp2
        obtain ⟨fn, tmps, assign, body, hy, hRd⟩ := HY.out pre _ W2 HJ2.out (by have := HMs.out.2.1; omega)
        have HR := Lib.hid hRd
        clear hRd
        rw [hy]
        refine ⟨fun _ => hn1, HR.out.mono ?_⟩
        rintro e W3 (⟨rfl, hJ3, hk3⟩ | ⟨rfl, hJx3⟩)
        · have HJ3 := Lib.hid hJ3
          have hi5 := hk3.2.same _ _ hit2 rfl
          have HB5 := Lib.hid (HB2.out.trans hk3.1)
          have hs5 := hk3.2.size
          have hm5 := iterPos_of' hi5
          clear hJ3 hk3 hy hnx hit2
          gi_wp2
          have h6 := HMs.out
          exact ⟨⟨⟨_, rfl, _, p + K, f', hi5, HP2.out, by omega, by simp; omega, HJ3.out⟩, HB5.out, by omega⟩, by rw [hm5, h6.1]; omega⟩
        · have HJX := Lib.hid hJx3
          clear hJx3 hy hnx hit2
          gi_wp2
          refine bodyPost_ret (results_none rfl _ _ _) rfl ?_
          exact ⟨⟨_, rfl⟩, .inr ⟨_, ⟨_, HP2.out.symm⟩, HJX.out⟩⟩
    · have hps : ¬ p < (mkB t).size := by rw [mkB_size]; exact hlt
      have hnx : ∀ ty, (Instr.next (.pointer (some ⟨W.heap.size, 0, none⟩)) true ty).run Try.prog wr = _ := fun ty => Lib.run_next_end_at wr W.heap.size (mkB t) p ty hit hps
      have HP := Lib.hid HPre.out
      rw [vowF_end t f p ot hlt, List.append_nil] at HP
      clear hit hps hlt HPre
      gi_wp2
      go_end0
      exact ⟨⟨_, rfl⟩, .inl ⟨_, HP.out, HJs.out⟩⟩
theorem vowels_any (t : List UInt8) (w : World) : Calls Try.prog 11 #[.string (mkB t)] w fun e w' => e = .returned (.func (.func 15) #[] #[.pointer (some ⟨w.heap.size, 0, none⟩)]) ∧ w' = w.alloc (.cells #[.string (mkB t)] 9) := by
  go_enter Try.func11, Try.ntmps11
  go_wp2
  go_ret
  exact ⟨rfl, rfl⟩
theorem vow_stops (n : Nat) (hn : 2 ≤ n) (w0 : World) (Bs : Nat) (t : List UInt8) (ht : t.length ≤ 1000000) (w : World) (hB0 : Below w0.heap.size w0 w) (hBsl : Bs < w.heap.size) (hBs : w.cell? ⟨Bs, 0, none⟩ = some (.string (mkB t))) :
    SeqStopsK Fence.wide n Try.prog 15 #[.pointer (some ⟨Bs, 0, none⟩)] encV (KpS w0.heap.size) (fun ys => ys = vowL t) (fun pre => ∃ sf, vowL t = pre ++ sf) t.length w := fun l J Jx W hW hJ _ hY h0 =>
  vow1_in n hn l w0 Bs t ht J Jx W hJ hY (hB0.trans (hW.mono hB0.size)) (kp' hW hBsl hBs) h0
end Go.Proofs.Ytoainljghfldlaa
