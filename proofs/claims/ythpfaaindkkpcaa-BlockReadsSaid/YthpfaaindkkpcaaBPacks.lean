/- the law BlockPacks walked. -/
import Derived.Test.YthpfaaindkkpcaaBTops
import Derived.Test.YthpfaaindkkpcaaBRefPack
import Derived.Test.YthpfaaindkkpcaaBAwake
import Derived.Deep.RegionHeld3
namespace Go.Proofs.Ythpfaaindkkpcaa
open Go.RowKit Go.Maps
set_option linter.unusedVariables false
set_option linter.unusedSimpArgs false

theorem pack_same {Q P : Nat → Pst} {n : Nat} (h : ∀ i, i < n → SameP (Q i) (P i)) : packL n Q = packL n P := by
  have hh : ∀ k, k ≤ n → allL Q k = allL P k := by
    intro k
    induction k with
    | zero => intro _; rfl
    | succ k ih =>
      intro hk
      obtain ⟨a, b, c, d⟩ := h k (by omega)
      rw [allL, allL, ih (by omega), rows_same h (by omega)]
      unfold oneL headL
      rw [a, b, c, d]
  unfold packL
  rw [hh n (Nat.le_refl _)]
theorem ats_256 (F : Nat → Int) : ∀ k, ∀ x ∈ atsL F k, x < 256 := by
  intro k
  induction k with
  | zero => intro x hx; cases hx
  | succ k ih =>
    intro x hx
    rw [atsL, List.mem_append] at hx
    exact hx.elim (ih x) (num_lt _ x)
theorem all_256 (P : Nat → Pst) : ∀ k, ∀ x ∈ allL P k, x < 256 := by
  intro k
  induction k with
  | zero => intro x hx; cases hx
  | succ k ih =>
    intro x hx
    rw [allL, List.mem_append] at hx
    refine hx.elim (ih x) fun hx => ?_
    unfold oneL headL at hx
    simp only [List.mem_append] at hx
    obtain ((h | h) | h) | h := hx
    · exact num_lt _ x h
    · exact num_lt _ x h
    · exact num_lt _ x h
    · exact ats_256 _ _ x h
theorem pack_256 (n : Nat) (P : Nat → Pst) : ∀ x ∈ packL n P, x < 256 := by
  intro x hx
  unfold packL at hx
  rw [List.mem_append] at hx
  exact hx.elim (num_lt _ x) (all_256 P n x)
/-- The bytes of any row, and the answer's number. -/
def packX (n : Nat) (P : Nat → Pst) : List Nat := if rightB n P then packL n P else []
def packE (n : Nat) (P : Nat → Pst) : Int := if rightB n P then 0 else 5
theorem packX_256 (n : Nat) (P : Nat → Pst) : ∀ x ∈ packX n P, x < 256 := by
  unfold packX
  split
  · exact pack_256 n P
  · intro x hx; cases hx
theorem own_nil (w : World) (base : Nat) : OwnU w base (.slice none 0 0) [] := ⟨by simp, .inl ⟨rfl, rfl⟩⟩
theorem packX_any {A : Option Addr} {n c : Nat} {P : Nat → Pst} (w : World) (hI : Psts w A n P) : Calls Try.prog 11 #[.slice A n c] w fun e w' => ∃ A1 c1, e = .returned (.tuple #[.slice A1 (packX n P).length c1, .int .i64 (packE n P)]) ∧ OwnU w' w.heap.size (.slice A1 (packX n P).length c1) (packX n P) ∧ Below w.heap.size w w' := by
  unfold packX packE
  cases h : rightB n P with
  | false =>
    refine (pack_no h w hI).mono ?_
    rintro e w' ⟨rfl, l⟩
    exact ⟨none, 0, rfl, own_nil _ _, l⟩
  | true =>
    refine (pack_yes h w hI).mono ?_
    rintro e w' ⟨v, rfl, ho, l⟩
    obtain ⟨A1, c1, rfl⟩ := own_isU ho
    exact ⟨A1, c1, rfl, ho, l⟩
theorem refPackX_any {A : Option Addr} {n c : Nat} {P : Nat → Pst} (w : World) (hI : Psts w A n P) : Calls Try.prog 15 #[.slice A n c] w fun e w' => ∃ A1 c1, e = .returned (.tuple #[.slice A1 (packX n P).length c1, .int .i64 (packE n P)]) ∧ OwnU w' w.heap.size (.slice A1 (packX n P).length c1) (packX n P) ∧ Below w.heap.size w w' := by
  unfold packX packE
  cases h : rightB n P with
  | false =>
    refine (refPack_no h w hI).mono ?_
    rintro e w' ⟨rfl, l⟩
    exact ⟨none, 0, rfl, own_nil _ _, l⟩
  | true =>
    refine (refPack_yes h w hI).mono ?_
    rintro e w' ⟨v, rfl, ho, l⟩
    obtain ⟨A1, c1, rfl⟩ := own_isU ho
    exact ⟨A1, c1, rfl, ho, l⟩
theorem packX_same {Q P : Nat → Pst} {n : Nat} (h : ∀ i, i < n → SameP (Q i) (P i)) : packX n Q = packX n P ∧ packE n Q = packE n P := by
  unfold packX packE
  rw [right_same h, pack_same h]
  exact ⟨rfl, rfl⟩
/-- The least length of the first k, as the law's loop holds it. -/
def loL (P : Nat → Pst) (k : Nat) : Int := if k = 0 then 0 else lowL P k
theorem loL_zero (P : Nat → Pst) : loL P 0 = 0 := rfl
theorem loL_one (P : Nat → Pst) (h : (P 0).len ≤ 1048576) : loL P (0 + 1) = (P 0).len := by
  show lowL P 1 = _
  rw [lowL, lowL]; omega
theorem loL_lt (P : Nat → Pst) (k : Nat) (h : (P (k + 1)).len < loL P (k + 1)) : loL P (k + 1 + 1) = (P (k + 1)).len := by
  have h' : (P (k + 1)).len < lowL P (k + 1) := h
  show lowL P (k + 1 + 1) = _
  rw [lowL]; omega
theorem loL_ge (P : Nat → Pst) (k : Nat) (h : ¬ (P (k + 1)).len < loL P (k + 1)) : loL P (k + 1 + 1) = loL P (k + 1) := by
  have h' : ¬ (P (k + 1)).len < lowL P (k + 1) := h
  show lowL P (k + 1 + 1) = lowL P (k + 1)
  rw [lowL]; omega
theorem topsV_lo {n : Nat} {P : Nat → Pst} (h : rightB n P = true) : topsV n P = (topN P n, loL P n) := by
  unfold topsV loL
  rw [h]
  by_cases h0 : n = 0
  · subst h0; rfl
  · rw [if_neg (by simp [h0]), if_neg h0]
end Go.Proofs.Ythpfaaindkkpcaa
