/- Values as trees, and what the document's functions give of them: no program. -/
import Derived.Test.YtpmhefdalhohdaaDoorNHeld
import Derived.Lib.ValidU
namespace Go.Proofs.YtpmhefdalhohdaaDoor
open Go.RowKit

/-- A value of the document: kind, truth, number, text, so many items, each, so many names, each. -/
inductive VT where
  | no
  | mk (k : Int) (b : Bool) (n : Int) (s : ByteArray) (m : Nat) (f : Nat → VT) (q : Nat) (g : Nat → ByteArray)
namespace VT
def k : VT → Int | .no => 6 | .mk k _ _ _ _ _ _ _ => k
def b : VT → Bool | .no => false | .mk _ b _ _ _ _ _ _ => b
def n : VT → Int | .no => 0 | .mk _ _ n _ _ _ _ _ => n
def s : VT → ByteArray | .no => ByteArray.empty | .mk _ _ _ s _ _ _ _ => s
def m : VT → Nat | .no => 0 | .mk _ _ _ _ m _ _ _ => m
def f : VT → Nat → VT | .no => fun _ => .no | .mk _ _ _ _ _ f _ _ => f
def q : VT → Nat | .no => 0 | .mk _ _ _ _ _ _ q _ => q
def g : VT → Nat → ByteArray | .no => fun _ => ByteArray.empty | .mk _ _ _ _ _ _ _ g => g
end VT

/-- So many rounds of a step that is told its number; below 0 they end. -/
def goN (step : Nat → Int → Int) (x : Int) : Nat → Int
  | 0 => x
  | i + 1 => if goN step x i < 0 then -1 else if step i (goN step x i) < 0 then -1 else step i (goN step x i)
theorem goN_neg {step : Nat → Int → Int} {x : Int} : ∀ (j i : Nat), goN step x i < 0 → i < j → goN step x j = -1
  | 0, _, _, h => absurd h (by omega)
  | j + 1, i, hi, h => by
    have : goN step x j < 0 := by
      rcases Nat.lt_or_ge i j with h2 | h2
      · rw [goN_neg j i hi h2]; omega
      · have : i = j := by omega
        rw [← this]; exact hi
    rw [goN, if_pos this]
theorem goN_go {step : Nat → Int → Int} {x : Int} {i : Nat} (h0 : 0 ≤ goN step x i) (h : 0 ≤ step i (goN step x i)) : goN step x (i + 1) = step i (goN step x i) := by
  rw [goN, if_neg (by omega), if_neg (by omega)]
theorem goN_stop {step : Nat → Int → Int} {x : Int} {i m : Nat} (h0 : 0 ≤ goN step x i) (h : step i (goN step x i) < 0) (hm : i < m) : goN step x m = -1 := by
  have h1 : goN step x (i + 1) = -1 := by rw [goN, if_neg (by omega), if_pos h]
  rcases Nat.lt_or_ge (i + 1) m with h2 | h2
  · exact goN_neg m (i + 1) (by rw [h1]; omega) h2
  · have : m = i + 1 := by omega
    rw [this, h1]
/-- How many parts are left of so many; -1: there are too many. -/
def countV : VT → Int → Int
  | .no, _ => -1
  | .mk k _ _ s m f q g, left =>
    if left - 1 < 0 ∨ 300 < s.size ∨ 300 < m ∨ (k = 5 ∧ q ≠ m) then -1
    else if k ≠ 4 ∧ k ≠ 5 then left - 1
    else goN (fun i x => if k = 5 ∧ 300 < (g i).size then -1 else countV (f i) x) (left - 1) m
def lightB (t : VT) : Bool := decide (0 ≤ countV t 300)

def sumN (p : Nat → Nat) : Nat → Nat
  | 0 => 0
  | i + 1 => sumN p i + p i
/-- How many parts a value has. -/
def partsV : VT → Nat
  | .no => 1
  | .mk k _ _ _ m f _ _ => 1 + if k = 4 ∨ k = 5 then sumN (fun i => partsV (f i)) m else 0
/-- As many names as items; few and short all. -/
def OkV : VT → Prop
  | .no => True
  | .mk k _ _ s m f q g => s.size ≤ 300 ∧ m ≤ 300 ∧ (k = 5 → q = m) ∧ ((k = 4 ∨ k = 5) → ∀ i, i < m → (k = 5 → (g i).size ≤ 300) ∧ OkV (f i))
theorem count_parts : ∀ (t : VT) (x : Int), 0 ≤ countV t x → countV t x + partsV t ≤ x ∧ OkV t
  | .no, x, h => by unfold countV at h; omega
  | .mk k b n s m f q g, x, h => by
    unfold countV at h ⊢
    unfold partsV OkV
    split at h
    · omega
    · rename_i h1
      simp only [not_or, not_and] at h1
      rw [if_neg (by simp only [not_or, not_and]; exact h1)]
      have h1d : k = 5 → q = m := fun e => Decidable.not_not.1 (h1.2.2.2 e)
      split at h
      · rename_i h2
        rw [if_pos h2, if_neg (by omega)]
        exact ⟨by omega, by omega, by omega, h1d, fun h3 => by omega⟩
      · rename_i h2
        rw [if_neg h2, if_pos (by omega)]
        have key : ∀ j, j ≤ m → 0 ≤ goN (fun i x => if k = 5 ∧ 300 < (g i).size then -1 else countV (f i) x) (x - 1) j ∧ goN (fun i x => if k = 5 ∧ 300 < (g i).size then -1 else countV (f i) x) (x - 1) j + (sumN (fun i => partsV (f i)) j : Nat) ≤ x - 1 ∧ ∀ i, i < j → (k = 5 → (g i).size ≤ 300) ∧ OkV (f i) := by
          intro j
          induction j with
          | zero => intro _; refine ⟨?_, ?_, fun i hi => absurd hi (by omega)⟩ <;> simp only [goN, sumN] <;> omega
          | succ j ih =>
            intro hj
            obtain ⟨i1, i2, i3⟩ := ih (by omega)
            have hs : ¬ (fun i x => if k = 5 ∧ 300 < (g i).size then -1 else countV (f i) x) j (goN (fun i x => if k = 5 ∧ 300 < (g i).size then -1 else countV (f i) x) (x - 1) j) < 0 := fun hs => by
              have := goN_stop i1 hs (show j < m by omega)
              omega
            have e := goN_go i1 (Int.not_lt.1 hs)
            by_cases hc : k = 5 ∧ 300 < (g j).size
            · simp only [if_pos hc] at hs; omega
            · simp only [if_neg hc] at hs e
              obtain ⟨c1, c2⟩ := count_parts (f j) _ (Int.not_lt.1 hs)
              refine ⟨by rw [e]; omega, by rw [e, sumN]; omega, fun i hi => ?_⟩
              rcases Nat.lt_or_ge i j with h3 | h3
              · exact i3 i h3
              · have : i = j := by omega
                subst this
                exact ⟨fun e5 => by simp only [not_and] at hc; have := hc e5; omega, c2⟩
        obtain ⟨k1, k2, k3⟩ := key m (Nat.le_refl _)
        exact ⟨by omega, by omega, by omega, h1d, fun _ => k3⟩
theorem light_ok {t : VT} (h : lightB t = true) : OkV t ∧ partsV t ≤ 300 := by
  have h0 : 0 ≤ countV t 300 := of_decide_eq_true h
  obtain ⟨h1, h2⟩ := count_parts t 300 h0
  exact ⟨h2, by omega⟩

/-- The first of so many that is not 0. -/
def firstE (p : Nat → Int) : Nat → Int
  | 0 => 0
  | i + 1 => if firstE p i ≠ 0 then firstE p i else p i
theorem firstE_front (p : Nat → Int) : ∀ r, firstE p (r + 1) = if p 0 ≠ 0 then p 0 else firstE (fun i => p (i + 1)) r
  | 0 => by simp [firstE]
  | r + 1 => by
    rw [firstE, firstE_front p r]
    by_cases h : p 0 = 0 <;> simp [h, firstE]
theorem firstE_stay {p : Nat → Int} {i : Nat} (h : firstE p i ≠ 0) : ∀ j, i ≤ j → firstE p j = firstE p i
  | 0, hj => by have : i = 0 := by omega
                rw [this]
  | j + 1, hj => by
    rcases Nat.lt_or_ge i (j + 1) with h2 | h2
    · have e := firstE_stay h j (by omega)
      rw [firstE, e, if_pos h]
    · have : i = j + 1 := by omega
      rw [this]
theorem firstE_stop {p : Nat → Int} {i m : Nat} (h0 : firstE p i = 0) (h : p i ≠ 0) (hm : i < m) : firstE p m = p i := by
  have e : firstE p (i + 1) = p i := by rw [firstE, h0]; simp
  rw [firstE_stay (i := i + 1) (by rw [e]; exact h) m hm, e]
theorem firstE_go {p : Nat → Int} {i : Nat} (h0 : firstE p i = 0) (h : p i = 0) : firstE p (i + 1) = 0 := by rw [firstE, h0, h]; simp
theorem firstE_zero {p : Nat → Int} : ∀ {m : Nat}, firstE p m = 0 → ∀ i, i < m → p i = 0
  | 0, _, i, hi => absurd hi (by omega)
  | m + 1, h, i, hi => by
    have h1 : firstE p m = 0 := by
      rw [firstE] at h
      split at h
      · contradiction
      · omega
    rcases Nat.lt_or_ge i m with h2 | h2
    · exact firstE_zero h1 i h2
    · have : i = m := by omega
      subst this
      rw [firstE, h1] at h
      simpa using h
theorem firstE_none {p : Nat → Int} : ∀ {m : Nat}, (∀ i, i < m → p i = 0) → firstE p m = 0
  | 0, _ => rfl
  | m + 1, h => firstE_go (firstE_none fun i hi => h i (by omega)) (h m (by omega))
def utfB (s : ByteArray) : Bool := Lib.validD s.data.toList
/-- Is a text among so many names? -/
def amongB (g : Nat → ByteArray) (s : ByteArray) : Nat → Bool
  | 0 => false
  | i + 1 => amongB g s i || decide (g i = s)
theorem among_iff {g : Nat → ByteArray} {s : ByteArray} : ∀ {n : Nat}, amongB g s n = true ↔ ∃ i, i < n ∧ g i = s
  | 0 => by simp [amongB]
  | n + 1 => by
    rw [amongB, Bool.or_eq_true, among_iff, decide_eq_true_iff]
    constructor
    · rintro (⟨i, h1, h2⟩ | h)
      · exact ⟨i, by omega, h2⟩
      · exact ⟨n, by omega, h⟩
    · rintro ⟨i, h1, h2⟩
      rcases Nat.lt_or_ge i n with h3 | h3
      · exact .inl ⟨i, h3, h2⟩
      · have : i = n := by omega
        subst this
        exact .inr h2
/-- Why a value within so many others may not be. -/
def mayV : VT → Nat → Int
  | .no, _ => 14
  | .mk k _ n s m f _ g, d =>
    if k = 0 ∨ k = 1 then 0
    else if k = 2 then (if heldB n = true then 0 else 2)
    else if k = 3 then (if utfB s = true then 0 else 11)
    else if k = 4 ∨ k = 5 then (if 32 ≤ d then 10 else firstE (fun i => if k = 5 ∧ utfB (g i) = false then 11 else if k = 5 ∧ amongB g (g i) i = true then 13 else mayV (f i) (d + 1)) m)
    else 14
/-- It may be, within some others. -/
def Fit (t : VT) : Prop := ∃ d, mayV t d = 0
theorem Fit.kind {t : VT} (h : Fit t) : 0 ≤ t.k ∧ t.k ≤ 5 := by
  obtain ⟨d, h⟩ := h
  rcases t with _ | ⟨k, b, n, s, m, f, q, g⟩
  · unfold mayV at h; omega
  unfold mayV at h
  show 0 ≤ k ∧ k ≤ 5
  repeat' split at h
  all_goals omega
theorem Fit.num {k n m q : _} {b s f g} (h : Fit (.mk k b n s m f q g)) (hk : k = 2) : heldB n = true := by
  obtain ⟨d, h⟩ := h
  subst hk
  unfold mayV at h
  simp at h
  exact h
theorem Fit.item {k n m q : _} {b s f g} (h : Fit (.mk k b n s m f q g)) (hk : k = 4 ∨ k = 5) {i : Nat} (hi : i < m) : Fit (f i) ∧ (k = 5 → utfB (g i) = true ∧ amongB g (g i) i = false) := by
  obtain ⟨d, h⟩ := h
  unfold mayV at h
  rw [if_neg (by omega), if_neg (by omega), if_neg (by omega), if_pos hk] at h
  split at h
  · omega
  · have := firstE_zero h i hi
    by_cases c1 : k = 5 ∧ utfB (g i) = false
    · simp [c1] at this
    · simp only [if_neg c1] at this
      by_cases c2 : k = 5 ∧ amongB g (g i) i = true
      · simp [c2] at this
      · simp only [if_neg c2] at this
        exact ⟨⟨_, this⟩, fun e => ⟨by simpa [e] using c1, by simpa [e] using c2⟩⟩
end Go.Proofs.YtpmhefdalhohdaaDoor
