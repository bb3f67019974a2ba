/- stem's Stem: for every word up to a million bytes; the law's plain and awake. -/
import Derived.Test.YtoainljghfldlaaSSteps2
import Derived.Test.YtoainljghfldlaaSSteps3
import Derived.Test.YtoainljghfldlaaSSteps4
namespace Go.Proofs.Ytoainljghfldlaa
open Go.RowKit
set_option linter.unusedVariables false
set_option linter.unusedSimpArgs false

open Go.Shelf
attribute [local go_sem] Oper.semAt_some
/-- A sign that begins with a byte below 128 is that byte; any other is none of these. -/
theorem dec_low {t : List UInt8} {p : Nat} (hp : p < t.length) (h : (t.getD p 0).toNat < 128) : dec t p = ((t.getD p 0).toNat, 1) := by
  unfold dec
  rw [Lib.decodeL_N]
  have e : ((t.drop p).getD 0 0) = t.getD p 0 := by simp [List.getD]
  rw [e]
  exact Lib.decodeN_ascii _ _ _ _ _ h
theorem dec_high {t : List UInt8} {p : Nat} (hp : p < t.length) (h : ¬ (t.getD p 0).toNat < 128) : 128 ≤ (dec t p).1 := by
  unfold dec
  rw [Lib.decodeL_N]
  have e : ((t.drop p).getD 0 0) = t.getD p 0 := by simp [List.getD]
  rw [e]
  generalize (t.drop p).length = n
  generalize ((t.drop p).getD 1 0).toNat = b1
  generalize ((t.drop p).getD 2 0).toNat = b2
  generalize ((t.drop p).getD 3 0).toNat = b3
  rcases Lib.decodeN_shape n (t.getD p 0).toNat b1 b2 b3 with ⟨c, e⟩ | ⟨d1, d2, d3, cv, e⟩ | ⟨d1, d2, d3, d4, cv, cs, e⟩ | ⟨d1, d2, d3, d4, d5, cv, cw, e⟩ | e
  · omega
  · rw [e]; dsimp only; omega
  · rw [e]; dsimp only; omega
  · rw [e]; dsimp only; omega
  · rw [e]; dsimp only; omega
theorem getD_at {t : List UInt8} {p : Nat} (hp : p < t.length) : t[p]? = some (t.getD p 0) := by simp [List.getD, hp]
theorem all_snoc {t : List UInt8} {p : Nat} (hp : p < t.length) (h : (t.take p).all letB = true) (hb : letB (t.getD p 0) = true) : (t.take (p + 1)).all letB = true := by
  rw [List.take_add_one, getD_at hp, List.all_append, h]
  simp only [Option.toList_some, List.all_cons, List.all_nil, hb]
  rfl
theorem may_no {t : List UInt8} {p : Nat} (hp : p < t.length) (hb : letB (t.getD p 0) = false) : mayB t = false := by
  have : t.all letB = false := by
    rw [List.all_eq_false]
    exact ⟨t.getD p 0, List.mem_of_getElem? (getD_at hp), by rw [hb]; decide⟩
  unfold mayB
  rw [this]
  rfl
theorem may_len {t : List UInt8} (h : (t.take t.length).all letB = true) : mayB t = decide (3 ≤ t.length) := by
  rw [List.take_of_length_le (Nat.le_refl _)] at h
  unfold mayB
  rw [h]
  rfl
/-- What a round tells: the sign is a letter, one byte; or it is none. -/
theorem sign_of {t : List UInt8} {p : Nat} (hp : p < t.length) : (letB (t.getD p 0) = true ∧ ∃ R, dec t p = (R, 1) ∧ 97 ≤ R ∧ R ≤ 122) ∨ (letB (t.getD p 0) = false ∧ ((dec t p).1 < 97 ∨ (97 ≤ (dec t p).1 ∧ 122 < (dec t p).1))) := by
  by_cases hl : (t.getD p 0).toNat < 128
  · have e := dec_low hp hl
    by_cases hb : letB (t.getD p 0) = true
    · refine .inl ⟨hb, _, e, ?_⟩
      unfold letB at hb
      simp only [Bool.and_eq_true, decide_eq_true_eq] at hb
      exact hb
    · rw [Bool.not_eq_true] at hb
      refine .inr ⟨hb, ?_⟩
      rw [e]
      dsimp only
      unfold letB at hb
      simp only [Bool.and_eq_false_iff, decide_eq_false_iff_not] at hb
      omega
  · have e := dec_high hp hl
    refine .inr ⟨?_, by omega⟩
    unfold letB
    rw [Bool.and_eq_false_iff]
    exact .inr (decide_eq_false (by omega))
set_option maxRecDepth 100000 in
set_option maxHeartbeats 8000000 in
theorem mayStem_any (t : List UInt8) (ht : t.length ≤ 1000000) (w : World) : Calls Try.prog 13 #[.string (mkB t)] w fun e w' => e = .returned (.bool (mayB t)) ∧ Below w.heap.size w w' := by
  go_enter Try.func13, Try.ntmps13
  go_wp2
  go_loopw [] (fun wr => (∃ p : Nat, wr.heap[w.heap.size]? = some (.stringIter (mkB t) p) ∧ p ≤ t.length ∧ (t.take p).all letB = true) ∧ Below w.heap.size w wr) (fun wr => t.length - wr.iterPos w.heap.size)
  case atStart => exact ⟨⟨0, World.iter_heap w (mkB t) 0, by omega, by simp⟩, (Below.refl _ _).alloc (Nat.le_refl _) _⟩
  case round =>
    obtain ⟨⟨p, hit, hpl, hal⟩, hB⟩ := hrel
    have HB := Lib.hid hB
    have HAL := Lib.hid hal
    clear hB hal
    by_cases hlt : p < t.length
    · have hps : p < (mkB t).size := by rw [mkB_size]; exact hlt
      have hnx : ∀ ty, (Instr.next (.pointer (some ⟨w.heap.size, 0, none⟩)) true ty).run Try.prog wr = _ := fun ty => Lib.run_next_any_at wr w.heap.size (mkB t) p ty hit hps
      rw [dec_model] at hnx
      have hm0 : wr.iterPos w.heap.size = p := iterPos_of' hit
      have hrn := dec_rune t p
      have hB2 := fun q => Lib.below_iterAt HB.out (k := w.heap.size) (Nat.le_refl _) (mkB t) q
      have hI2 := fun q => Lib.iterAt_heap wr w.heap.size (mkB t) p q hit
      rcases sign_of hlt with ⟨hb, R, hR, h1, h2⟩ | ⟨hb, h1 | ⟨h1, h2⟩⟩
      · rw [hR] at hnx
        dsimp only at hnx
        have HI := Lib.hid (hI2 (p + 1))
        have HB2 := Lib.hid (hB2 (p + 1))
        have HA2 := Lib.hid (all_snoc hlt HAL.out hb)
        have HM := Lib.hid (And.intro hm0 hlt)
        obtain ⟨W2, hW2⟩ : ∃ W2, wr.iterAt w.heap.size (mkB t) (p + 1) = W2 := ⟨_, rfl⟩
        rw [hW2] at hnx HI HB2
        have i1 : ¬ (R : Int) < 97 := by omega
        have i2 : ¬ (122 : Int) < (R : Int) := by omega
        clear hB2 hI2 hW2 hb hR hrn hm0 hlt hps hit h1 h2
        go_wp2
        go_roundw
        case rel => exact ⟨⟨p + 1, HI.out, by have := HM.out.2; omega, HA2.out⟩, HB2.out⟩
        case measure => rw [iterPos_of' HI.out, HM.out.1]; have := HM.out.2; omega
      · obtain ⟨R, hR⟩ : ∃ R, (dec t p).1 = R := ⟨_, rfl⟩
        obtain ⟨K, hK⟩ : ∃ K, (dec t p).2 = K := ⟨_, rfl⟩
        rw [hR, hK] at hnx
        rw [hR] at h1
        have HB2 := Lib.hid (hB2 (p + K))
        have HE := Lib.hid (may_no hlt hb)
        obtain ⟨W2, hW2⟩ : ∃ W2, wr.iterAt w.heap.size (mkB t) (p + K) = W2 := ⟨_, rfl⟩
        rw [hW2] at hnx HB2
        have i1 : (R : Int) < 97 := by omega
        clear hB2 hI2 hW2 hb hR hK hrn hm0 hlt hps hit h1
        go_wp2
        go_ret
        exact ⟨by rw [HE.out]; rfl, HB2.out⟩
      · obtain ⟨R, hR⟩ : ∃ R, (dec t p).1 = R := ⟨_, rfl⟩
        obtain ⟨K, hK⟩ : ∃ K, (dec t p).2 = K := ⟨_, rfl⟩
        rw [hR, hK] at hnx
        rw [hR] at h1 h2
        have HB2 := Lib.hid (hB2 (p + K))
        have HE := Lib.hid (may_no hlt hb)
        obtain ⟨W2, hW2⟩ : ∃ W2, wr.iterAt w.heap.size (mkB t) (p + K) = W2 := ⟨_, rfl⟩
        rw [hW2] at hnx HB2
        have i1 : ¬ (R : Int) < 97 := by omega
        have i2 : (122 : Int) < (R : Int) := by omega
        clear hB2 hI2 hW2 hb hR hK hrn hm0 hlt hps hit h1 h2
        go_wp2
        go_ret
        exact ⟨by rw [HE.out]; rfl, HB2.out⟩
    · have hps : ¬ p < (mkB t).size := by rw [mkB_size]; exact hlt
      have hnx : ∀ ty, (Instr.next (.pointer (some ⟨w.heap.size, 0, none⟩)) true ty).run Try.prog wr = _ := fun ty => Lib.run_next_end_at wr w.heap.size (mkB t) p ty hit hps
      obtain rfl : p = t.length := by omega
      have HE := Lib.hid (may_len HAL.out)
      have hsz := mkB_size t
      obtain ⟨bt, hbt⟩ : ∃ b, b = mkB t := ⟨_, rfl⟩
      rw [← hbt] at hsz ⊢
      have HSZ := Lib.hid hsz
      clear hit hps hlt hbt hsz
      go_wp2
      go_ret
      exact ⟨ret_b (show decide ((3 : Int) ≤ (bt.size : Int)) = mayB t by rw [HE.out, ← HSZ.out]; exact decide_eq_decide.2 (by omega)), HB.out⟩
end Go.Proofs.Ytoainljghfldlaa
