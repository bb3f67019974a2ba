/- the document's Unpack: plain. -/
import Derived.Test.YthpfaaindkkpcaaBGet
namespace Go.Proofs.Ythpfaaindkkpcaa
set_option linter.unusedVariables false

/-- k numbers read, each at most bd, and where they end. -/
def nsR (F : Nat → Nat) (m bd : Nat) : Nat → Nat → Option (List Nat × Nat)
  | 0, a => some ([], a)
  | k + 1, a => match gI F m 8 0 a with
    | none => none
    | some (x, nx) => if bd < x then none else (nsR F m bd k nx).map fun q => (x :: q.1, q.2)
def plcs : Int → List Nat → List Int
  | _, [] => []
  | p, x :: xs => (p + (1 + x)) :: plcs (p + (1 + x)) xs
def lastP : Int → List Nat → Int
  | p, [] => p
  | p, x :: xs => lastP (p + (1 + x)) xs
theorem plcs_snoc (p : Int) (xs : List Nat) (x : Nat) : plcs p (xs ++ [x]) = plcs p xs ++ [lastP p xs + (1 + x)] := by
  induction xs generalizing p with
  | nil => rfl
  | cons y ys ih => rw [List.cons_append, plcs, plcs, ih]; rfl
theorem lastP_snoc (p : Int) (xs : List Nat) (x : Nat) : lastP p (xs ++ [x]) = lastP p xs + (1 + x) := by
  induction xs generalizing p with
  | nil => rfl
  | cons y ys ih => rw [List.cons_append, lastP, ih]; rfl
theorem plcs_len (p : Int) (xs : List Nat) : (plcs p xs).length = xs.length := by
  induction xs generalizing p with
  | nil => rfl
  | cons y ys ih => rw [plcs, List.length_cons, List.length_cons, ih]
/-- A posting read, and where it ends. -/
def pR (F : Nat → Nat) (m : Nat) (row : Int) (a : Nat) : Option ((Int × Int × List Int) × Nat) :=
  match nsR F m 9007199254740992 3 a with
  | none => none
  | some (l, a3) => if m ≤ l.getD 2 0 then none else (nsR F m 1048576 (l.getD 2 0 + 1) a3).map fun q => ((row + (1 + (l.getD 0 0 : Nat)), ((l.getD 1 0 : Nat) : Int) + 1, plcs (-1) q.1), q.2)
def psR (F : Nat → Nat) (m : Nat) : Nat → Int → Nat → Option (List (Int × Int × List Int) × Nat)
  | 0, _, a => some ([], a)
  | k + 1, row, a => match pR F m row a with
    | none => none
    | some (p, nx) => (psR F m k p.1 nx).map fun q => (p :: q.1, q.2)
/-- The list read, before it is written again. -/
def rfL (F : Nat → Nat) (m : Nat) : Option (List (Int × Int × List Int)) :=
  match gI F m 8 0 0 with
  | none => none
  | some (c, a) => if 64 < c then none else (psR F m c (-1) a).map Prod.fst
theorem nsR_none {F : Nat → Nat} {m bd k a : Nat} (h : gI F m 8 0 a = none) : nsR F m bd (k + 1) a = none := by rw [nsR, h]
theorem nsR_big {F : Nat → Nat} {m bd k a x nx : Nat} (h : gI F m 8 0 a = some (x, nx)) (hb : bd < x) : nsR F m bd (k + 1) a = none := by rw [nsR, h]; exact if_pos hb
theorem nsR_ok {F : Nat → Nat} {m bd k a x nx : Nat} (h : gI F m 8 0 a = some (x, nx)) (hb : ¬ bd < x) : nsR F m bd (k + 1) a = (nsR F m bd k nx).map fun q => (x :: q.1, q.2) := by rw [nsR, h]; exact if_neg hb
theorem gI_le {F : Nat → Nat} {m : Nat} : ∀ {k acc a x nx : Nat}, gI F m k acc a = some (x, nx) → nx ≤ m := by
  intro k
  induction k with
  | zero => intro acc a x nx h; cases h
  | succ k ih =>
    intro acc a x nx h
    by_cases h1 : a < m
    · by_cases h2 : F a < 128
      · rw [gI_yes h1 h2] at h
        injection h with h
        injection h with _ h
        omega
      · rw [gI_on h1 h2] at h
        exact ih h
    · rw [gI_end h1] at h; cases h
/-- Where the reading of n numbers stands, k of them read. -/
def NsAt (F : Nat → Nat) (m bd n : Nat) (R : Option (List Nat × Nat)) (k : Nat) (pre : List Nat) (a : Nat) : Prop :=
  R = (nsR F m bd (n - k) a).map fun q => (pre ++ q.1, q.2)
theorem nsAt_zero (F : Nat → Nat) (m bd n a : Nat) : NsAt F m bd n (nsR F m bd n a) 0 [] a := by
  unfold NsAt
  rw [Nat.sub_zero]
  cases nsR F m bd n a <;> rfl
theorem NsAt.no {F : Nat → Nat} {m bd n k a : Nat} {R : Option (List Nat × Nat)} {pre : List Nat} (h : NsAt F m bd n R k pre a) (hk : k < n) (hg : gI F m 8 0 a = none) : R = none := by
  unfold NsAt at h
  rw [h, show n - k = (n - (k + 1)) + 1 by omega, nsR_none hg]; rfl
theorem NsAt.big {F : Nat → Nat} {m bd n k a x nx : Nat} {R : Option (List Nat × Nat)} {pre : List Nat} (h : NsAt F m bd n R k pre a) (hk : k < n) (hg : gI F m 8 0 a = some (x, nx)) (hb : bd < x) : R = none := by
  unfold NsAt at h
  rw [h, show n - k = (n - (k + 1)) + 1 by omega, nsR_big hg hb]; rfl
theorem NsAt.on {F : Nat → Nat} {m bd n k a x nx : Nat} {R : Option (List Nat × Nat)} {pre : List Nat} (h : NsAt F m bd n R k pre a) (hk : k < n) (hg : gI F m 8 0 a = some (x, nx)) (hb : ¬ bd < x) : NsAt F m bd n R (k + 1) (pre ++ [x]) nx := by
  unfold NsAt at h ⊢
  rw [h, show n - k = (n - (k + 1)) + 1 by omega, nsR_ok hg hb]
  cases nsR F m bd (n - (k + 1)) nx with
  | none => rfl
  | some q => simp
theorem NsAt.end_ {F : Nat → Nat} {m bd n a : Nat} {R : Option (List Nat × Nat)} {pre : List Nat} (h : NsAt F m bd n R n pre a) : R = some (pre, a) := by
  unfold NsAt at h
  rw [h, Nat.sub_self, nsR]
  simp
/-- Where the reading of n postings stands, k of them read. -/
def PsAt (F : Nat → Nat) (m n : Nat) (R : Option (List (Int × Int × List Int) × Nat)) (k : Nat) (pre : List (Int × Int × List Int)) (row : Int) (a : Nat) : Prop :=
  R = (psR F m (n - k) row a).map fun q => (pre ++ q.1, q.2)
theorem psAt_zero (F : Nat → Nat) (m n : Nat) (row : Int) (a : Nat) : PsAt F m n (psR F m n row a) 0 [] row a := by
  unfold PsAt
  rw [Nat.sub_zero]
  cases psR F m n row a <;> rfl
theorem PsAt.no {F : Nat → Nat} {m n k a : Nat} {row : Int} {R : Option (List (Int × Int × List Int) × Nat)} {pre : List (Int × Int × List Int)} (h : PsAt F m n R k pre row a) (hk : k < n) (hg : pR F m row a = none) : R = none := by
  unfold PsAt at h
  rw [h, show n - k = (n - (k + 1)) + 1 by omega, psR, hg]; rfl
theorem PsAt.on {F : Nat → Nat} {m n k a nx : Nat} {row : Int} {p : Int × Int × List Int} {R : Option (List (Int × Int × List Int) × Nat)} {pre : List (Int × Int × List Int)} (h : PsAt F m n R k pre row a) (hk : k < n) (hg : pR F m row a = some (p, nx)) : PsAt F m n R (k + 1) (pre ++ [p]) p.1 nx := by
  unfold PsAt at h ⊢
  rw [h, show n - k = (n - (k + 1)) + 1 by omega, psR, hg]
  dsimp only
  cases psR F m (n - (k + 1)) p.1 nx with
  | none => rfl
  | some q => simp
theorem PsAt.end_ {F : Nat → Nat} {m n a : Nat} {row : Int} {R : Option (List (Int × Int × List Int) × Nat)} {pre : List (Int × Int × List Int)} (h : PsAt F m n R n pre row a) : R = some (pre, a) := by
  unfold PsAt at h
  rw [h, Nat.sub_self, psR]
  simp
theorem pR_no1 {F : Nat → Nat} {m a : Nat} {row : Int} (h : nsR F m 9007199254740992 3 a = none) : pR F m row a = none := by unfold pR; rw [h]
theorem pR_no2 {F : Nat → Nat} {m a x y z a3 : Nat} {row : Int} (h : nsR F m 9007199254740992 3 a = some ([x, y, z], a3)) (hz : m ≤ z) : pR F m row a = none := by
  unfold pR; rw [h]; exact if_pos hz
theorem pR_no3 {F : Nat → Nat} {m a x y z a3 : Nat} {row : Int} (h : nsR F m 9007199254740992 3 a = some ([x, y, z], a3)) (h2 : nsR F m 1048576 (z + 1) a3 = none) : pR F m row a = none := by
  unfold pR; rw [h]
  show (if m ≤ z then none else (nsR F m 1048576 (z + 1) a3).map _) = none
  rw [h2]; split <;> rfl
theorem pR_yes {F : Nat → Nat} {m a x y z a3 a4 : Nat} {row : Int} {l : List Nat} (h : nsR F m 9007199254740992 3 a = some ([x, y, z], a3)) (hz : ¬ m ≤ z) (h2 : nsR F m 1048576 (z + 1) a3 = some (l, a4)) : pR F m row a = some ((row + (1 + (x : Int)), (y : Int) + 1, plcs (-1) l), a4) := by
  unfold pR; rw [h]
  show (if m ≤ z then none else (nsR F m 1048576 (z + 1) a3).map _) = _
  rw [h2, if_neg hz]; rfl
/-- What follows from a place on. -/
def AtF (F : Nat → Nat) (m a : Nat) (r : List Nat) : Prop := a + r.length = m ∧ ∀ (i x : Nat), r[i]? = some x → F (a + i) = x
theorem AtF.cons {F : Nat → Nat} {m a x : Nat} {r : List Nat} (h : AtF F m a (x :: r)) : a < m ∧ F a = x ∧ AtF F m (a + 1) r := by
  obtain ⟨h1, h2⟩ := h
  rw [List.length_cons] at h1
  refine ⟨by omega, h2 0 x rfl, by omega, fun i y hy => ?_⟩
  rw [show a + 1 + i = a + (i + 1) by omega]
  exact h2 (i + 1) y (by simpa using hy)
theorem hi_length : ∀ (k n : Nat), n < 128 ^ k → (hiL n).length ≤ k := by
  intro k
  induction k with
  | zero =>
    intro n h
    obtain rfl : n = 0 := by simpa using h
    rw [hi_zero]; simp
  | succ k ih =>
    intro n h
    by_cases h0 : n = 0
    · subst h0; rw [hi_zero]; simp
    · rw [hi_pos h0, List.length_append, List.length_singleton]
      have := ih (n / 128) (by rw [Nat.pow_succ] at h; omega)
      omega
theorem gI_hi (F : Nat → Nat) (m : Nat) : ∀ (q f a : Nat) (r : List Nat), AtF F m a (hiL q ++ r) → (hiL q).length ≤ f → gI F m f 0 a = gI F m (f - (hiL q).length) q (a + (hiL q).length) ∧ AtF F m (a + (hiL q).length) r := by
  intro q
  induction q using Nat.strongRecOn with
  | ind q ih =>
    intro f a r h hf
    by_cases h0 : q = 0
    · subst h0
      rw [hi_zero] at h ⊢
      exact ⟨rfl, h⟩
    · rw [hi_pos h0] at h hf ⊢
      rw [List.append_assoc] at h
      rw [List.length_append, List.length_singleton] at hf ⊢
      obtain ⟨e1, e2⟩ := ih (q / 128) (by omega) f a _ h (by omega)
      obtain ⟨c1, c2, c3⟩ := e2.cons
      rw [e1, show f - (hiL (q / 128)).length = (f - ((hiL (q / 128)).length + 1)) + 1 by omega, gI_on c1 (by omega), c2]
      refine ⟨?_, by rw [← Nat.add_assoc]; exact c3⟩
      rw [show 128 * (q / 128) + (q % 128 + 128) % 128 = q by omega, Nat.add_assoc]
theorem gI_num {F : Nat → Nat} {m n a : Nat} {r : List Nat} (h : AtF F m a (numL n ++ r)) (hn : n < 72057594037927936) : ∃ nx, gI F m 8 0 a = some (n, nx) ∧ AtF F m nx r := by
  have hl := hi_length 7 (n / 128) (by omega)
  unfold numL at h
  rw [List.append_assoc] at h
  obtain ⟨e1, e2⟩ := gI_hi F m (n / 128) 8 a _ h (by omega)
  obtain ⟨c1, c2, c3⟩ := e2.cons
  rw [show 8 - (hiL (n / 128)).length = (8 - ((hiL (n / 128)).length + 1)) + 1 by omega, gI_yes c1 (by omega), c2] at e1
  refine ⟨_, ?_, c3⟩
  rw [e1]
  congr 2
  omega
theorem gap_cast {n ahead : Int} (h : ahead < n) : ((gapN n ahead : Nat) : Int) = n - ahead - 1 := by unfold gapN; omega
theorem nsR_ats {F : Nat → Nat} {m : Nat} {len : Int} (hl : len ≤ 1048576) : ∀ (ps : List Int) (bf : Int) (a : Nat) (r : List Nat), -1 ≤ bf → ChainL len bf ps → AtF F m a (atsLs bf ps ++ r) → ∃ ns nx, nsR F m 1048576 ps.length a = some (ns, nx) ∧ plcs bf ns = ps ∧ AtF F m nx r := by
  intro ps
  induction ps with
  | nil => intro bf a r _ _ h; exact ⟨[], a, rfl, rfl, h⟩
  | cons p ps ih =>
    intro bf a r hb hc h
    obtain ⟨h1, h2, h3⟩ := hc
    rw [atsLs, List.append_assoc] at h
    have hg := gap_cast h1
    obtain ⟨nx, e1, e2⟩ := gI_num h (by omega)
    obtain ⟨ns, n2, e3, e4, e5⟩ := ih p nx r (by omega) h3 e2
    refine ⟨gapN p bf :: ns, n2, ?_, ?_, e5⟩
    · rw [List.length_cons, nsR_ok e1 (by omega), e3]; rfl
    · rw [plcs, show bf + (1 + ((gapN p bf : Nat) : Int)) = p by omega, e4]
theorem pR_back {F : Nat → Nat} {m a : Nat} {row : Int} {q : Int × Int × List Int} {r : List Nat} (hr : -1 ≤ row) (hq : OkP row q) (h : AtF F m a (encP row q ++ r)) : ∃ nx, pR F m row a = some (q, nx) ∧ AtF F m nx r := by
  obtain ⟨rw', ln, ps⟩ := q
  obtain ⟨h1, h2, h3, h4, h5, h6, h7⟩ := hq
  dsimp only at *
  unfold encP at h
  dsimp only at h
  rw [List.append_assoc] at h
  have g1 := gap_cast h1
  have g2 := gap_cast h3
  have g3 := gap_cast (show (0 : Int) < (ps.length : Nat) by omega)
  obtain ⟨a1, e1, f1⟩ := gI_num h (by omega)
  rw [List.append_assoc] at f1
  obtain ⟨a2, e2, f2⟩ := gI_num f1 (by omega)
  rw [List.append_assoc] at f2
  obtain ⟨a3, e3, f3⟩ := gI_num f2 (by omega)
  obtain ⟨ns, a4, e4, e5, e6⟩ := nsR_ats h4 ps (-1) a3 r (by omega) h7 f3
  have hlen := ats_long ps (-1)
  have hm := f3.1
  rw [List.length_append] at hm
  have hn : nsR F m 9007199254740992 3 a = some ([gapN rw' row, gapN ln 0, gapN (ps.length : Nat) 0], a3) := by
    rw [nsR_ok e1 (by omega), nsR_ok e2 (by omega), nsR_ok e3 (by omega), nsR]; rfl
  refine ⟨a4, ?_, e6⟩
  rw [pR_yes hn (by omega) (l := ns) (a4 := a4) (by rw [show gapN ((ps.length : Nat) : Int) 0 + 1 = ps.length by omega]; exact e4), e5]
  congr 3
  · omega
  · congr 1; omega
theorem psR_back {F : Nat → Nat} {m : Nat} : ∀ (ls : List (Int × Int × List Int)) (row : Int) (a : Nat) (r : List Nat), -1 ≤ row → OkL row ls → AtF F m a (encL row ls ++ r) → ∃ nx, psR F m ls.length row a = some (ls, nx) ∧ AtF F m nx r := by
  intro ls
  induction ls with
  | nil => intro row a r _ _ h; exact ⟨a, rfl, h⟩
  | cons q ls ih =>
    intro row a r hr ho h
    obtain ⟨h1, h2⟩ := ho
    rw [encL, List.append_assoc] at h
    obtain ⟨nx, e1, e2⟩ := pR_back hr h1 h
    obtain ⟨n2, e3, e4⟩ := ih q.1 nx r (by have := h1.1; omega) h2 e2
    exact ⟨n2, by rw [List.length_cons, psR, e1]; dsimp only; rw [e3]; rfl, e4⟩
theorem atF_all (F : Nat → Nat) (m : Nat) : AtF F m 0 ((List.range m).map F) := by
  refine ⟨by simp, fun i x hx => ?_⟩
  obtain ⟨hi, rfl⟩ := List.getElem?_eq_some_iff.1 hx
  simp
theorem rf_back {F : Nat → Nat} {m : Nat} {ls : List (Int × Int × List Int)} (hx : ∀ x ∈ (List.range m).map F, x < 256) (h : unpL ((List.range m).map F) = some ls) : rfL F m = some ls := by
  obtain ⟨h1, h2, h3⟩ := unp_only hx h
  have hA := atF_all F m
  rw [h1] at hA
  obtain ⟨a, e1, e2⟩ := gI_num hA (by omega)
  obtain ⟨a2, e3, _⟩ := psR_back ls (-1) a [] (by omega) h3 (by rw [List.append_nil]; exact e2)
  unfold rfL
  rw [e1]
  dsimp only
  rw [if_neg (by omega), e3]; rfl
theorem rf_none {F : Nat → Nat} {m : Nat} (hx : ∀ x ∈ (List.range m).map F, x < 256) (h : rfL F m = none) : unpL ((List.range m).map F) = none := by
  cases hu : unpL ((List.range m).map F) with
  | none => rfl
  | some ls => rw [rf_back hx hu] at h; cases h
theorem rf_some {F : Nat → Nat} {m n : Nat} {Q : Nat → Pst} (hx : ∀ x ∈ (List.range m).map F, x < 256) (h : rfL F m = some (fromD Q 0 n)) :
    (rightB n Q = true ∧ packL n Q = (List.range m).map F → unpL ((List.range m).map F) = some (fromD Q 0 n)) ∧ (¬ (rightB n Q = true ∧ packL n Q = (List.range m).map F) → unpL ((List.range m).map F) = none) := by
  refine ⟨fun ⟨h1, h2⟩ => by rw [← h2]; exact unp_pack h1, fun hn => ?_⟩
  cases hu : unpL ((List.range m).map F) with
  | none => rfl
  | some ls =>
    rw [rf_back hx hu] at h
    injection h with h
    subst h
    exact absurd (pack_unp hx hu) hn
end Go.Proofs.Ythpfaaindkkpcaa
