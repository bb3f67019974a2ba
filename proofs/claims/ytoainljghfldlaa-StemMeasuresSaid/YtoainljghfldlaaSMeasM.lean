/- stem: the document's vowels and measure, letter by letter: plain; its Vowel and Measure; StemMeasures' walk. -/
import Derived.Test.YtoainljghfldlaaSLaw
namespace Go.Proofs.Ytoainljghfldlaa
open Go.RowKit
set_option linter.unusedVariables false
set_option linter.unusedSimpArgs false

open Go.Shelf
attribute [local go_sem] Oper.semAt_some
def byN (t : List UInt8) (i : Nat) : Nat := (t.getD i 0).toNat
/-- Is the letter at a place a vowel? -/
def vAt (t : List UInt8) : Nat → Bool
  | 0 => isV (byN t 0)
  | i + 1 => isV (byN t (i + 1)) || (byN t (i + 1) == 121 && !vAt t i)
def othB (t : List UInt8) : Nat → Bool
  | 0 => false
  | i + 1 => !vAt t i
theorem vAt_oth (t : List UInt8) (p : Nat) : vAt t p = vwB (byN t p) (othB t p) := by
  cases p with
  | zero => simp [vAt, vwB, othB]
  | succ p => rfl
theorem vowF_let (t : List UInt8) (h : t.all letB = true) : ∀ (f p : Nat), p + f = t.length → vowF t f p (othB t p) = (List.range' p f).map (vAt t) := by
  intro f
  induction f with
  | zero => intro p _; rfl
  | succ f ih =>
    intro p hp
    have hlt : p < t.length := by omega
    have hb : letB (t.getD p 0) = true := List.all_eq_true.1 h _ (List.mem_of_getElem? (getD_at hlt))
    have hlo : (t.getD p 0).toNat < 128 := by have := letB_in hb; omega
    have hd := dec_low hlt hlo
    have hv : vwB (t.getD p 0).toNat (othB t p) = vAt t p := (vAt_oth t p).symm
    unfold vowF
    rw [if_pos hlt, hd]
    dsimp only
    rw [hv]
    have := ih (p + 1) (by omega)
    rw [show othB t (p + 1) = !vAt t p from rfl] at this
    rw [this, List.range'_succ]
    rfl
theorem vowL_let (t : List UInt8) (h : t.all letB = true) : vowL t = (List.range t.length).map (vAt t) := by
  unfold vowL
  rw [List.range_eq_range']
  exact vowF_let t h t.length 0 (by omega)
/-- How often, ahead of a place, a letter that is no vowel follows a vowel. -/
def refK (t : List UInt8) : Nat → Nat
  | 0 => 0
  | 1 => 0
  | k + 2 => refK t (k + 1) + (if (vAt t k && !vAt t (k + 1)) = true then 1 else 0)
theorem msr_range (t : List UInt8) : ∀ k, msr ((List.range (k + 1)).map (vAt t)) = (refK t (k + 1), vAt t k) := by
  intro k
  induction k with
  | zero => simp [msr, mstep, refK, List.range_succ]
  | succ k ih =>
    rw [List.range_succ, List.map_append, List.map_cons, List.map_nil, msr_snoc, ih]
    unfold mstep
    dsimp only
    rw [show refK t (k + 1 + 1) = refK t (k + 1) + (if (vAt t k && !vAt t (k + 1)) = true then 1 else 0) from rfl]
    split <;> simp
theorem meas_ref (t : List UInt8) (h : t.all letB = true) : measL t = refK t t.length := by
  unfold measL
  rw [vowL_let t h]
  cases hn : t.length with
  | zero => rfl
  | succ k => rw [msr_range]
theorem refK_le (t : List UInt8) : ∀ k, refK t k ≤ k
  | 0 => Nat.le_refl _
  | 1 => by simp [refK]
  | k + 2 => by
    have := refK_le t (k + 1)
    unfold refK
    split <;> omega
theorem refK_succ (t : List UInt8) {k : Nat} (hk : 1 ≤ k) : refK t (k + 1) = refK t k + (if (vAt t (k - 1) && !vAt t k) = true then 1 else 0) := by
  obtain ⟨j, rfl⟩ : ∃ j, k = j + 1 := ⟨k - 1, by omega⟩
  rfl
theorem tests_at (t : List UInt8) (p : Nat) :
    (Tests (byN t p) true false false false false false ∧ vAt t p = true) ∨ (Tests (byN t p) false true false false false false ∧ vAt t p = true) ∨ (Tests (byN t p) false false true false false false ∧ vAt t p = true) ∨
    (Tests (byN t p) false false false true false false ∧ vAt t p = true) ∨ (Tests (byN t p) false false false false true false ∧ vAt t p = true) ∨ (Tests (byN t p) false false false false false true ∧ vAt t p = othB t p) ∨
    (Tests (byN t p) false false false false false false ∧ vAt t p = false) := by
  rw [vAt_oth]
  exact tests_of _ _
set_option maxRecDepth 100000 in
set_option maxHeartbeats 8000000 in
theorem vowel_any (t : List UInt8) (ht : t.length ≤ 1000000) : ∀ (i : Nat) (w : World), i < t.length → Calls Try.prog 12 #[.string (mkB t), .int .i64 (i : Nat)] w fun e w' => e = .returned (.bool (vAt t i)) ∧ w' = w := by
  have hsz := mkB_size t
  have HX := Lib.hid (byte_at t)
  obtain ⟨bt, hbt⟩ : ∃ b, b = mkB t := ⟨_, rfl⟩
  have HX2 := Lib.hid (show ∀ i, i < t.length → ∀ h, (bt[i]'h) = t.getD i 0 by subst hbt; exact fun i hi h => HX.out i hi h)
  rw [← hbt] at hsz ⊢
  have HSZ := Lib.hid hsz
  have hb : bt.size ≤ 1000000 := by omega
  clear hbt hsz HX
  intro i
  induction i with
  | zero =>
    intro w hlt
    have hAe := HX2.out 0 hlt
    have hs : 0 < bt.size := by rw [HSZ.out]; exact hlt
    have hts := tests_at t 0
    unfold byN at hts
    obtain ⟨x, hx⟩ : ∃ x, x = t.getD 0 0 := ⟨_, rfl⟩
    rw [← hx] at hAe hts
    have h0e : othB t 0 = false := rfl
    rw [h0e] at hts
    obtain ⟨vv, hvv⟩ : ∃ vv, vAt t 0 = vv := ⟨_, rfl⟩
    rw [hvv] at hts ⊢
    clear hx hvv h0e
    rcases hts with ⟨⟨q1, q2, q3, q4, q5, q6⟩, rfl⟩ | ⟨⟨q1, q2, q3, q4, q5, q6⟩, rfl⟩ | ⟨⟨q1, q2, q3, q4, q5, q6⟩, rfl⟩ | ⟨⟨q1, q2, q3, q4, q5, q6⟩, rfl⟩ | ⟨⟨q1, q2, q3, q4, q5, q6⟩, rfl⟩ | ⟨⟨q1, q2, q3, q4, q5, q6⟩, rfl⟩ | ⟨⟨q1, q2, q3, q4, q5, q6⟩, rfl⟩
    all_goals
      go_enter Try.func12, Try.ntmps12
      go_wp2_with fail
      go_ret
      exact ⟨rfl, rfl⟩
  | succ i ih =>
    intro w hlt
    have hAe := HX2.out (i + 1) hlt
    have hs : i + 1 < bt.size := by rw [HSZ.out]; exact hlt
    have hts := tests_at t (i + 1)
    unfold byN at hts
    obtain ⟨x, hx⟩ : ∃ x, x = t.getD (i + 1) 0 := ⟨_, rfl⟩
    rw [← hx] at hAe hts
    rw [show othB t (i + 1) = !vAt t i from rfl] at hts
    have IH := Lib.hid (ih w (by omega))
    obtain ⟨uu, huu⟩ : ∃ uu, vAt t i = uu := ⟨_, rfl⟩
    rw [huu] at hts IH
    obtain ⟨vv, hvv⟩ : ∃ vv, vAt t (i + 1) = vv := ⟨_, rfl⟩
    rw [hvv] at hts ⊢
    clear hx hvv huu ih
    rcases hts with ⟨⟨q1, q2, q3, q4, q5, q6⟩, rfl⟩ | ⟨⟨q1, q2, q3, q4, q5, q6⟩, rfl⟩ | ⟨⟨q1, q2, q3, q4, q5, q6⟩, rfl⟩ | ⟨⟨q1, q2, q3, q4, q5, q6⟩, rfl⟩ | ⟨⟨q1, q2, q3, q4, q5, q6⟩, rfl⟩ | ⟨⟨q1, q2, q3, q4, q5, q6⟩, rfl⟩ | ⟨⟨q1, q2, q3, q4, q5, q6⟩, rfl⟩
    all_goals
      go_enter Try.func12, Try.ntmps12
      go_wp2_with (go_at_call 12; refine IH.out.mono ?_; rintro _ _ ⟨rfl, rfl⟩)
      go_ret
      exact ⟨rfl, rfl⟩
end Go.Proofs.Ytoainljghfldlaa
