/- HashHolds: the walk. -/
import Derived.Test.YtiiikahpmoifaaaDoorHSpots
import Derived.Test.YtiiikahpmoifaaaDoorGOver
namespace Go.Proofs.YtiiikahpmoifaaaDoor
open Go.RowKit
set_option linter.unusedVariables false
set_option linter.unusedSimpArgs false

theorem covers_top {B : Bk} {most : Nat} {L : List Rg} (hB : B.ok) (h : Covers B most L) : ∀ r ∈ L, r.2 < 18446744073709551616 := by
  obtain ⟨k, S, hk, hc, _, hp, hs, rfl⟩ := h
  have hu := Bk.up_ok hB k
  obtain ⟨cs, rfl, hcs, hpc⟩ := sorted_cells hp hs (codes_nodup hu.1 hu.2.1 hu.2.2.1 hu.2.2.2)
  have J := join_good (asc_of k hcs)
  intro r hr
  obtain ⟨q, hq, e⟩ := J.top r hr
  rw [e]
  exact cells_top hk (up_lt hk hB.2.1) (up_lt hk hB.2.2.2) hu.1 hu.2.2.1 q (hp.mem_iff.1 hq)
/-- How many of the first k ranges hold a number, where there is one. -/
def cntM (m : Bool) (c : Nat) (L : List Rg) (k : Nat) : Nat := cond m (cntR c (L.take k)) 0
theorem cntM_zero (m : Bool) (c : Nat) (L : List Rg) : cntM m c L 0 = 0 := by cases m <;> simp [cntM, cntR]
theorem cntM_hit {m : Bool} {c k : Nat} {L : List Rg} {r : Rg} (hr : L[k]? = some r) (hm : m = true) (h1 : r.1 ≤ c) (h2 : c ≤ r.2) : cntM m c L (k + 1) = cntM m c L k + 1 := by
  subst hm
  show cntR c (L.take (k + 1)) = cntR c (L.take k) + 1
  unfold cntR
  rw [take_snocR hr, List.filter_append, List.length_append]
  congr 1
  simp [inB, h1, h2]
theorem cntM_miss {m : Bool} {c k : Nat} {L : List Rg} {r : Rg} (hr : L[k]? = some r) (h : ¬ (m = true ∧ r.1 ≤ c ∧ c ≤ r.2)) : cntM m c L (k + 1) = cntM m c L k := by
  cases m with
  | false => rfl
  | true =>
    show cntR c (L.take (k + 1)) = cntR c (L.take k)
    unfold cntR
    rw [take_snocR hr, List.filter_append, List.length_append]
    have : inB c r = false := by
      unfold inB
      by_cases h1 : r.1 ≤ c
      · by_cases h2 : c ≤ r.2
        · exact absurd ⟨rfl, h1, h2⟩ h
        · simp [h2]
      · simp [h1]
    simp [this]
theorem cntM_le (m : Bool) (c : Nat) (L : List Rg) (k : Nat) : cntM m c L k ≤ k := by
  cases m with
  | false => exact Nat.zero_le _
  | true =>
    show cntR c (L.take k) ≤ k
    unfold cntR
    exact Nat.le_trans (List.length_filter_le _ _) (by rw [List.length_take]; omega)
theorem cntM_top {m : Bool} {c : Nat} {L : List Rg} (h : Gap L) : cntM m c L L.length ≤ 1 := by
  cases m with
  | false => exact Nat.zero_le _
  | true =>
    show cntR c (L.take L.length) ≤ 1
    rw [List.take_length]
    exact cnt_le h
/-- What the law wants to see. -/
theorem holds_one {r : Rc} {p : Pt} {n : Nat} {L : List Rg} (hr : MayR r) (hc : Covers (bkOf r) n L) (h : ovB r (justR p) = true) : mayB p = true ∧ cntM (mayB p) (codeV p) L L.length = 1 := by
  unfold ovB at h
  obtain ⟨_, ⟨hp, _, _⟩, h1, h2, h3, h4⟩ := of_decide_eq_true h
  have hp' : MayP p := hp
  have hm : mayB p = true := decide_eq_true hp'
  obtain ⟨hg, _, _, hcov⟩ := cover_good (Bk.fit_ok (bkOf_fit hr)) hc
  refine ⟨hm, ?_⟩
  rw [hm]
  show cntR (codeV p) (L.take L.length) = 1
  rw [List.take_length]
  have hin : InR (codeV p) L := by
    unfold codeV codeN
    rw [if_pos hp']
    obtain ⟨p1, p2, p3, p4⟩ := hp'
    obtain ⟨⟨a1, a2, a3, a4⟩, ⟨b1, b2, b3, b4⟩, _, _⟩ := hr
    unfold justR at h1 h2 h3 h4
    dsimp only at *
    apply hcov
    · show (r.x0 + 1800000000).toNat ≤ _; omega
    · show _ ≤ (r.x1 + 1800000000).toNat; omega
    · show (r.y0 + 900000000).toNat ≤ _; omega
    · show _ ≤ (r.y1 + 900000000).toNat; omega
  have := cnt_le (c := codeV p) hg
  have := cnt_pos hin
  omega
theorem gap_prev {L : List Rg} (h : Gap L) {k : Nat} {q r : Rg} (hq : L[k]? = some q) (hr : L[k + 1]? = some r) : q.2 + 1 < r.1 := by
  obtain ⟨hq1, hq2⟩ := List.getElem?_eq_some_iff.1 hq
  obtain ⟨hr1, hr2⟩ := List.getElem?_eq_some_iff.1 hr
  have := List.pairwise_iff_getElem.1 h.1 k (k + 1) hq1 hr1 (by omega)
  rw [hq2, hr2] at this
  exact this
end Go.Proofs.YtiiikahpmoifaaaDoor
