/- Unpack and Pack: plain: a list written and read back. -/
import Derived.Test.YthpfaaindkkpcaaBUnpPlain
import Derived.Test.YthpfaaindkkpcaaBUnpack2
namespace Go.Proofs.Ythpfaaindkkpcaa
set_option linter.unusedVariables false

/-- Places as bytes, behind one. -/
def atsLs : Int → List Int → List Nat
  | _, [] => []
  | bf, p :: ps => numL (gapN p bf) ++ atsLs p ps
def ChainL (len : Int) : Int → List Int → Prop
  | _, [] => True
  | bf, p :: ps => bf < p ∧ p < len ∧ ChainL len p ps
theorem num_posP (m : Nat) : 0 < (numL m).length := by unfold numL; rw [List.length_append, List.length_singleton]; omega
theorem ats_long : ∀ (ps : List Int) (bf : Int), ps.length ≤ (atsLs bf ps).length := by
  intro ps
  induction ps with
  | nil => intro bf; simp
  | cons p ps ih => intro bf; have := ih p; have := num_posP (gapN p bf); simp [atsLs]; omega
theorem pls_back (len : Int) : ∀ (ps : List Int) (bf : Int) (xs : List Nat), ChainL len bf ps → plsL len ps.length bf (atsLs bf ps ++ xs) = some (ps, xs) := by
  intro ps
  induction ps with
  | nil => intro bf xs _; rfl
  | cons p ps ih =>
    intro bf xs h
    obtain ⟨h1, h2, h3⟩ := h
    rw [List.length_cons, plsL, atsLs, List.append_assoc, ab_gap h1 (by omega)]
    dsimp only
    rw [ih p xs h3]
    rfl
theorem pls_only (len : Int) : ∀ (k : Nat) (bf : Int) (xs : List Nat) (ps : List Int) (r : List Nat), (∀ x ∈ xs, x < 256) → plsL len k bf xs = some (ps, r) → xs = atsLs bf ps ++ r ∧ ps.length = k ∧ ChainL len bf ps := by
  intro k
  induction k with
  | zero =>
    intro bf xs ps r _ h
    rw [plsL] at h
    injection h with h
    injection h with h1 h2
    subst h1 h2
    exact ⟨rfl, rfl, trivial⟩
  | succ k ih =>
    intro bf xs ps r hx h
    rw [plsL] at h
    cases hab : abL bf (len - 1) xs with
    | none => rw [hab] at h; cases h
    | some q =>
      obtain ⟨p, r1⟩ := q
      rw [hab] at h
      dsimp only at h
      rw [Option.map_eq_some_iff] at h
      obtain ⟨⟨qs, r2⟩, h1, h2⟩ := h
      injection h2 with h2 h3
      dsimp only at h2 h3
      subst h2 h3
      have e := ab_only hx hab
      obtain ⟨b1, b2, _⟩ := ab_le hab
      obtain ⟨c1, c2, c3⟩ := ih p r1 qs r2 (fun x hx1 => hx x (by rw [e]; exact List.mem_append_right _ hx1)) h1
      exact ⟨by rw [e, atsLs, List.append_assoc, ← c1], by simp [c2], b1, by omega, c3⟩
/-- One posting as bytes, behind a row. -/
def encP (row : Int) (q : Int × Int × List Int) : List Nat := numL (gapN q.1 row) ++ (numL (gapN q.2.1 0) ++ (numL (gapN (q.2.2.length : Nat) 0) ++ atsLs (-1) q.2.2))
def OkP (row : Int) (q : Int × Int × List Int) : Prop := row < q.1 ∧ q.1 ≤ 9007199254740992 ∧ 0 < q.2.1 ∧ q.2.1 ≤ 1048576 ∧ 0 < q.2.2.length ∧ (q.2.2.length : Int) ≤ q.2.1 ∧ ChainL q.2.1 (-1) q.2.2
theorem post_back {row : Int} {q : Int × Int × List Int} (h : OkP row q) (xs : List Nat) : postL row (encP row q ++ xs) = some (q, xs) := by
  obtain ⟨a, l, ps⟩ := q
  obtain ⟨h1, h2, h3, h4, h5, h6, h7⟩ := h
  dsimp only at *
  unfold postL encP
  simp only [List.append_assoc]
  rw [ab_gap h1 h2]
  dsimp only
  rw [ab_gap h3 h4]
  dsimp only
  rw [ab_gap (by omega) h6]
  dsimp only
  rw [if_pos (by have := ats_long ps (-1); simp; omega), Int.toNat_natCast, pls_back _ _ _ _ h7]
  rfl
theorem post_only {row : Int} {xs r : List Nat} {q : Int × Int × List Int} (hx : ∀ x ∈ xs, x < 256) (h : postL row xs = some (q, r)) : xs = encP row q ++ r ∧ OkP row q := by
  unfold postL at h
  cases ha : abL row 9007199254740992 xs with
  | none => rw [ha] at h; cases h
  | some p =>
    obtain ⟨a', r1⟩ := p
    rw [ha] at h
    dsimp only at h
    have e1 := ab_only hx ha
    have hx1 : ∀ x ∈ r1, x < 256 := fun x hx2 => hx x (by rw [e1]; exact List.mem_append_right _ hx2)
    cases hl : abL 0 1048576 r1 with
    | none => rw [hl] at h; cases h
    | some p =>
      obtain ⟨l', r2⟩ := p
      rw [hl] at h
      dsimp only at h
      have e2 := ab_only hx1 hl
      have hx2 : ∀ x ∈ r2, x < 256 := fun x hx3 => hx1 x (by rw [e2]; exact List.mem_append_right _ hx3)
      cases hn : abL 0 l' r2 with
      | none => rw [hn] at h; cases h
      | some p =>
        obtain ⟨n, r3⟩ := p
        rw [hn] at h
        dsimp only at h
        have e3 := ab_only hx2 hn
        have hx3 : ∀ x ∈ r3, x < 256 := fun x hx4 => hx2 x (by rw [e3]; exact List.mem_append_right _ hx4)
        split at h
        · rw [Option.map_eq_some_iff] at h
          obtain ⟨⟨qs, r4⟩, h1, h2⟩ := h
          injection h2 with h2 h3
          dsimp only at h2 h3
          subst h2 h3
          obtain ⟨c1, c2, c3⟩ := pls_only _ _ _ _ _ _ hx3 h1
          obtain ⟨b1, b2, _⟩ := ab_le ha
          obtain ⟨d1, d2, _⟩ := ab_le hl
          obtain ⟨f1, f2, _⟩ := ab_le hn
          have en : ((qs.length : Nat) : Int) = n := by omega
          refine ⟨?_, b1, b2, d1, d2, by show 0 < qs.length; omega, by show (qs.length : Int) ≤ l'; omega, c3⟩
          unfold encP
          dsimp only
          rw [en, e1, e2, e3, c1]
          simp only [List.append_assoc]
        · cases h
/-- A row of postings as bytes, behind a row. -/
def encL : Int → List (Int × Int × List Int) → List Nat
  | _, [] => []
  | row, q :: qs => encP row q ++ encL q.1 qs
def OkL : Int → List (Int × Int × List Int) → Prop
  | _, [] => True
  | row, q :: qs => OkP row q ∧ OkL q.1 qs
theorem psts_back : ∀ (ls : List (Int × Int × List Int)) (row : Int) (xs : List Nat), OkL row ls → pstsL ls.length row (encL row ls ++ xs) = some (ls, xs) := by
  intro ls
  induction ls with
  | nil => intro row xs _; rfl
  | cons q qs ih =>
    intro row xs h
    rw [List.length_cons, pstsL, encL, List.append_assoc, post_back h.1]
    dsimp only
    rw [ih q.1 xs h.2]
    rfl
theorem psts_only : ∀ (k : Nat) (row : Int) (xs : List Nat) (ls : List (Int × Int × List Int)) (r : List Nat), (∀ x ∈ xs, x < 256) → pstsL k row xs = some (ls, r) → xs = encL row ls ++ r ∧ ls.length = k ∧ OkL row ls := by
  intro k
  induction k with
  | zero =>
    intro row xs ls r _ h
    rw [pstsL] at h
    injection h with h
    injection h with h1 h2
    subst h1 h2
    exact ⟨rfl, rfl, trivial⟩
  | succ k ih =>
    intro row xs ls r hx h
    rw [pstsL] at h
    cases hp : postL row xs with
    | none => rw [hp] at h; cases h
    | some p =>
      obtain ⟨q, r1⟩ := p
      rw [hp] at h
      dsimp only at h
      rw [Option.map_eq_some_iff] at h
      obtain ⟨⟨qs, r2⟩, h1, h2⟩ := h
      injection h2 with h2 h3
      dsimp only at h2 h3
      subst h2 h3
      obtain ⟨e, ok⟩ := post_only hx hp
      obtain ⟨c1, c2, c3⟩ := ih q.1 r1 qs r2 (fun x hx1 => hx x (by rw [e]; exact List.mem_append_right _ hx1)) h1
      exact ⟨by rw [e, encL, List.append_assoc, ← c1], by simp [c2], ok, c3⟩
/-- What is written is read back. -/
theorem unp_back {ls : List (Int × Int × List Int)} (h : OkL (-1) ls) (hl : ls.length ≤ 64) : unpL (numL ls.length ++ encL (-1) ls) = some ls := by
  unfold unpL
  rw [rd_num (by omega)]
  have := psts_back ls (-1) [] h
  rw [List.append_nil] at this
  dsimp only
  rw [this]
  rfl
/-- Only what is written is read. -/
theorem unp_only {xs : List Nat} {ls : List (Int × Int × List Int)} (hx : ∀ x ∈ xs, x < 256) (h : unpL xs = some ls) : xs = numL ls.length ++ encL (-1) ls ∧ ls.length ≤ 64 ∧ OkL (-1) ls := by
  unfold unpL at h
  cases h0 : rdL 64 0 xs with
  | none => rw [h0] at h; cases h
  | some p =>
    obtain ⟨n, r⟩ := p
    rw [h0] at h
    dsimp only at h
    have e := rd_only _ _ _ _ _ hx h0
    rw [hi_zero, List.nil_append] at e
    have hn := (rd_le _ _ _ _ _ h0).1
    cases h1 : pstsL n (-1) r with
    | none => rw [h1] at h; cases h
    | some p =>
      obtain ⟨l, r'⟩ := p
      rw [h1] at h
      dsimp only at h
      split at h
      · rename_i hr
        injection h with h
        subst h hr
        obtain ⟨c1, c2, c3⟩ := psts_only _ _ _ _ _ (fun x hx1 => hx x (by rw [e]; exact List.mem_append_right _ hx1)) h1
        rw [List.append_nil] at c1
        exact ⟨by rw [e, ← c1, c2], by omega, c3⟩
      · cases h
end Go.Proofs.Ythpfaaindkkpcaa
