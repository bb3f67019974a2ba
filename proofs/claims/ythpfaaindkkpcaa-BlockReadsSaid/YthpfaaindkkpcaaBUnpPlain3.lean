/- Unpack and Pack: plain: postings in memory and their data. -/
import Derived.Test.YthpfaaindkkpcaaBUnpPlain2
namespace Go.Proofs.Ythpfaaindkkpcaa
set_option linter.unusedVariables false

def fromI (F : Nat → Int) : Nat → Nat → List Int
  | _, 0 => []
  | k, m + 1 => F k :: fromI F (k + 1) m
theorem fromI_len (F : Nat → Int) : ∀ m k, (fromI F k m).length = m := by
  intro m
  induction m with
  | zero => intro k; rfl
  | succ m ih => intro k; rw [fromI, List.length_cons, ih]
theorem fromI_get (F : Nat → Int) : ∀ m k i, i < m → (fromI F k m).getD i 0 = F (k + i) := by
  intro m
  induction m with
  | zero => intro k i hi; omega
  | succ m ih =>
    intro k i hi
    rw [fromI]
    cases i with
    | zero => rfl
    | succ i =>
      have := ih (k + 1) i (by omega)
      rw [show k + 1 + i = k + (i + 1) by omega] at this
      rw [← this]
      rfl
theorem ats_from (F : Nat → Int) : ∀ m k, atsL F (k + m) = atsL F k ++ atsLs (aheadF F k) (fromI F k m) := by
  intro m
  induction m with
  | zero => intro k; simp [fromI, atsLs]
  | succ m ih =>
    intro k
    rw [show k + (m + 1) = k + 1 + m by omega, ih (k + 1), atsL, fromI, atsLs, aheadF_succ, List.append_assoc]
theorem chain_from (len : Int) (F : Nat → Int) : ∀ m k, ChainL len (aheadF F k) (fromI F k m) ↔ ∀ i, k ≤ i → i < k + m → aheadF F i < F i ∧ F i < len := by
  intro m
  induction m with
  | zero => intro k; exact ⟨fun _ i h1 h2 => by omega, fun _ => trivial⟩
  | succ m ih =>
    intro k
    have := ih (k + 1)
    rw [aheadF_succ] at this
    constructor
    · rintro ⟨h1, h2, h3⟩ i hi hm
      by_cases e : i = k
      · subst e; exact ⟨h1, h2⟩
      · exact this.1 h3 i (by omega) (by omega)
    · intro h
      exact ⟨(h k (by omega) (by omega)).1, (h k (by omega) (by omega)).2, this.2 fun i h1 h2 => h i (by omega) (by omega)⟩
theorem ahead_zero (F : Nat → Int) : aheadF F 0 = -1 := if_pos rfl
/-- A posting's plain data. -/
def plP (p : Pst) : Int × Int × List Int := (p.row, p.len, fromI p.F 0 p.n)
theorem enc_one (ahead : Int) (p : Pst) : oneL ahead p = encP ahead (plP p) := by
  have h := ats_from p.F p.n 0
  rw [Nat.zero_add, ahead_zero] at h
  unfold oneL headL encP plP
  dsimp only
  rw [h, fromI_len]
  simp [atsL, List.append_assoc]
def fromD (P : Nat → Pst) : Nat → Nat → List (Int × Int × List Int)
  | _, 0 => []
  | k, m + 1 => plP (P k) :: fromD P (k + 1) m
theorem fromD_len (P : Nat → Pst) : ∀ m k, (fromD P k m).length = m := by
  intro m
  induction m with
  | zero => intro k; rfl
  | succ m ih => intro k; rw [fromD, List.length_cons, ih]
theorem fromD_get (P : Nat → Pst) : ∀ m k i, i < m → (fromD P k m).getD i (0, 0, []) = plP (P (k + i)) := by
  intro m
  induction m with
  | zero => intro k i hi; omega
  | succ m ih =>
    intro k i hi
    rw [fromD]
    cases i with
    | zero => rfl
    | succ i =>
      have := ih (k + 1) i (by omega)
      rw [show k + 1 + i = k + (i + 1) by omega] at this
      rw [← this]
      rfl
theorem all_from (P : Nat → Pst) : ∀ m k, allL P (k + m) = allL P k ++ encL (aheadF (rowsF P) k) (fromD P k m) := by
  intro m
  induction m with
  | zero => intro k; simp [fromD, encL]
  | succ m ih =>
    intro k
    rw [show k + (m + 1) = k + 1 + m by omega, ih (k + 1), allL, fromD, encL, aheadF_succ, enc_one, List.append_assoc]
    rfl
theorem pack_data (n : Nat) (P : Nat → Pst) : packL n P = numL n ++ encL (-1) (fromD P 0 n) := by
  have h := all_from P n 0
  rw [Nat.zero_add, ahead_zero] at h
  unfold packL
  rw [h]
  simp [allL]
theorem okp_may {ahead : Int} (ha : -1 ≤ ahead) (p : Pst) : OkP ahead (plP p) ↔ ahead < p.row ∧ MayP p.row p.len p.n p.F := by
  have hc := chain_from p.len p.F p.n 0
  rw [ahead_zero] at hc
  unfold OkP plP MayP
  dsimp only
  rw [fromI_len, hc]
  constructor
  · rintro ⟨h1, h2, h3, h4, h5, h6, h7⟩
    exact ⟨h1, by omega, h2, by omega, h4, h5, fun i hi => h7 i (by omega) (by omega)⟩
  · rintro ⟨h1, h2, h3, h4, h5, h6, h7⟩
    refine ⟨h1, h3, by omega, h5, h6, ?_, fun i _ hi => h7 i (by omega)⟩
    have h8 := good_ge h7 (p.n - 1) (by omega)
    have h9 := (h7 (p.n - 1) (by omega)).2
    omega
theorem okl_from (P : Nat → Pst) : ∀ m k, -1 ≤ aheadF (rowsF P) k → (OkL (aheadF (rowsF P) k) (fromD P k m) ↔ ∀ i, k ≤ i → i < k + m → aheadF (rowsF P) i < (P i).row ∧ MayP (P i).row (P i).len (P i).n (P i).F) := by
  intro m
  induction m with
  | zero => intro k _; exact ⟨fun _ i h1 h2 => by omega, fun _ => trivial⟩
  | succ m ih =>
    intro k hk
    have hI := ih (k + 1)
    rw [aheadF_succ] at hI
    have hO := okp_may hk (P k)
    constructor
    · rintro ⟨h1, h2⟩ i hi hm
      have h3 := hO.1 h1
      by_cases e : i = k
      · subst e; exact h3
      · exact (hI (by show -1 ≤ (P k).row; omega)).1 h2 i (by omega) (by omega)
    · intro h
      have h3 := h k (by omega) (by omega)
      exact ⟨hO.2 h3, (hI (by show -1 ≤ (P k).row; omega)).2 fun i h1 h2 => h i (by omega) (by omega)⟩
theorem right_ok (n : Nat) (P : Nat → Pst) : rightB n P = true ↔ n ≤ 64 ∧ OkL (-1) (fromD P 0 n) := by
  have h := okl_from P n 0 (by rw [ahead_zero]; omega)
  rw [ahead_zero] at h
  unfold rightB
  rw [decide_eq_true_eq, h]
  unfold RightP
  exact ⟨fun z => ⟨z.1, fun i _ hi => z.2 i (by omega)⟩, fun z => ⟨z.1, fun i hi => z.2 i (by omega) (by omega)⟩⟩
/-- Unpack of what Pack gives. -/
theorem unp_pack {n : Nat} {P : Nat → Pst} (h : rightB n P = true) : unpL (packL n P) = some (fromD P 0 n) := by
  obtain ⟨h1, h2⟩ := (right_ok n P).1 h
  have := unp_back h2 (by rw [fromD_len]; exact h1)
  rw [fromD_len] at this
  rw [pack_data]
  exact this
/-- Pack of what Unpack gives. -/
theorem pack_unp {xs : List Nat} {n : Nat} {P : Nat → Pst} (hx : ∀ x ∈ xs, x < 256) (h : unpL xs = some (fromD P 0 n)) : rightB n P = true ∧ packL n P = xs := by
  obtain ⟨h1, h2, h3⟩ := unp_only hx h
  rw [fromD_len] at h1 h2
  exact ⟨(right_ok n P).2 ⟨h2, h3⟩, by rw [pack_data, h1]⟩
end Go.Proofs.Ythpfaaindkkpcaa
