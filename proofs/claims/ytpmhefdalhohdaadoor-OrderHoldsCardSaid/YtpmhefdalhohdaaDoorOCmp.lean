/- The order of values, their keys, and that keys have it: no program. -/
import Derived.Test.YtpmhefdalhohdaaDoorVTree
namespace Go.Proofs.YtpmhefdalhohdaaDoor
open Go.RowKit

def cmpI (a b : Int) : Int := if a < b then -1 else if b < a then 1 else 0
/-- Which of two texts is ahead. -/
def cmpS : List UInt8 → List UInt8 → Int
  | [], [] => 0
  | [], _ :: _ => -1
  | _ :: _, [] => 1
  | a :: x, b :: y => if a < b then -1 else if b < a then 1 else cmpS x y
theorem u8_tri (a b : UInt8) : (a < b ∧ ¬ b < a ∧ a ≠ b) ∨ (b < a ∧ ¬ a < b ∧ a ≠ b) ∨ (a = b ∧ ¬ a < b ∧ ¬ b < a) := by
  simp only [UInt8.lt_iff_toNat_lt, ← UInt8.toNat_inj, ne_eq]
  omega
theorem cmpS_self : ∀ a, cmpS a a = 0
  | [] => rfl
  | a :: x => by
    rcases u8_tri a a with h | h | h
    · exact absurd rfl h.2.2
    · exact absurd rfl h.2.2
    · rw [cmpS, if_neg h.2.1, if_neg h.2.1, cmpS_self x]
theorem cmpS_eq : ∀ a b, cmpS a b = 0 → a = b
  | [], [], _ => rfl
  | [], _ :: _, h => by simp [cmpS] at h
  | _ :: _, [], h => by simp [cmpS] at h
  | a :: x, b :: y, h => by
    rw [cmpS] at h
    rcases u8_tri a b with t | t | t
    · rw [if_pos t.1] at h; omega
    · rw [if_neg t.2.1, if_pos t.1] at h; omega
    · rw [if_neg t.2.1, if_neg t.2.2] at h
      rw [t.1, cmpS_eq x y h]
theorem cmpS_anti : ∀ a b, cmpS b a = - cmpS a b
  | [], [] => rfl
  | [], _ :: _ => rfl
  | _ :: _, [] => rfl
  | a :: x, b :: y => by
    rw [cmpS, cmpS]
    rcases u8_tri a b with t | t | t
    · rw [if_neg t.2.1, if_pos t.1, if_pos t.1]; rfl
    · rw [if_pos t.1, if_neg t.2.1, if_pos t.1]
    · rw [if_neg t.2.1, if_neg t.2.2, if_neg t.2.1, if_neg t.2.2, cmpS_anti x y]
theorem cmpS_vals : ∀ a b, cmpS a b = -1 ∨ cmpS a b = 0 ∨ cmpS a b = 1
  | [], [] => .inr (.inl rfl)
  | [], _ :: _ => .inl rfl
  | _ :: _, [] => .inr (.inr rfl)
  | a :: x, b :: y => by
    rw [cmpS]
    split
    · exact .inl rfl
    · split
      · exact .inr (.inr rfl)
      · exact cmpS_vals x y
theorem cmpS_trans : ∀ a b c, cmpS a b ≤ 0 → cmpS b c ≤ 0 → cmpS a c ≤ 0
  | [], _, [], _, _ => by simp [cmpS]
  | [], _, _ :: _, _, _ => by simp [cmpS]
  | _ :: _, [], _, h, _ => by simp [cmpS] at h
  | _ :: _, _ :: _, [], _, h => by simp [cmpS] at h
  | a :: x, b :: y, c :: z, h, k => by
    rw [cmpS] at h k ⊢
    have tr : ∀ {p q r : UInt8}, p < q → q < r → p < r := fun h1 h2 => UInt8.lt_trans h1 h2
    rcases u8_tri a b with t | t | t
    · rcases u8_tri b c with u | u | u
      · rw [if_pos (tr t.1 u.1)]; omega
      · rw [if_neg u.2.1, if_pos u.1] at k; omega
      · rw [← u.1, if_pos t.1]; omega
    · rw [if_neg t.2.1, if_pos t.1] at h; omega
    · rw [if_neg t.2.1, if_neg t.2.2] at h
      obtain rfl := t.1
      rcases u8_tri a c with u | u | u
      · rw [if_pos u.1]; omega
      · rw [if_neg u.2.1, if_pos u.1] at k; omega
      · rw [if_neg u.2.1, if_neg u.2.2] at k ⊢
        exact cmpS_trans x y z h k
theorem less_cmp : ∀ a b, Op.bytesLess a b = decide (cmpS a b < 0)
  | [], [] => rfl
  | [], _ :: _ => rfl
  | _ :: _, [] => rfl
  | a :: x, b :: y => by
    rw [Op.bytesLess, cmpS, less_cmp x y]
    rcases u8_tri a b with t | t | t
    · simp [t.1]
    · rw [if_neg t.2.1, if_pos t.1]; simp [t.2.1, t.2.2]
    · rw [if_neg t.2.1, if_neg t.2.2]; simp [t.1]
theorem cmpS_app : ∀ a b x y, a.length = b.length → cmpS (a ++ x) (b ++ y) = if cmpS a b ≠ 0 then cmpS a b else cmpS x y
  | [], [], x, y, _ => by simp [cmpS]
  | _ :: _, [], _, _, h => by simp at h
  | [], _ :: _, _, _, h => by simp at h
  | a :: s, b :: t, x, y, h => by
    rw [List.cons_append, List.cons_append, cmpS, cmpS]
    rcases u8_tri a b with u | u | u
    · rw [if_pos u.1, if_pos u.1]; rfl
    · rw [if_neg u.2.1, if_pos u.1, if_neg u.2.1, if_pos u.1]; rfl
    · rw [if_neg u.2.1, if_neg u.2.2, if_neg u.2.1, if_neg u.2.2]
      exact cmpS_app s t x y (by simpa using h)

/-- A kind's place. -/
def rankV (t : VT) : Int := if t.k = 0 then 1 else if t.k = 1 then (if t.b = true then 3 else 2) else t.k + 2
/-- Which value is ahead. -/
def cmpV : VT → VT → Int
  | .no, _ => 0
  | .mk k b n s m f q g, u =>
    if rankV (.mk k b n s m f q g) ≠ rankV u then cmpI (rankV (.mk k b n s m f q g)) (rankV u)
    else if k = 2 then cmpI n u.n
    else if k = 3 then cmpS s.data.toList u.s.data.toList
    else if k = 4 ∨ k = 5 then
      (if firstE (fun i => if k = 5 ∧ g i ≠ u.g i then cmpS (g i).data.toList (u.g i).data.toList else cmpV (f i) (u.f i)) (min m u.m) ≠ 0
        then firstE (fun i => if k = 5 ∧ g i ≠ u.g i then cmpS (g i).data.toList (u.g i).data.toList else cmpV (f i) (u.f i)) (min m u.m)
        else cmpI m u.m)
    else 0

/-- The bytes of a text's key behind the kind, but for its end. -/
def esc : List UInt8 → List UInt8
  | [] => []
  | c :: r => if c = 0 then 0 :: 255 :: esc r else c :: esc r
def wordK (s : List UInt8) : List UInt8 := 5 :: (esc s ++ [0, 1])
/-- A number's byte in the place of 256 ^ j, its sign turned. -/
def numB (n : Int) (j : Nat) : UInt8 := UInt8.ofNat (((n + 9223372036854775808).toNat / 256 ^ j) % 256)
def numK (n : Int) : List UInt8 := [numB n 7, numB n 6, numB n 5, numB n 4, numB n 3, numB n 2, numB n 1, numB n 0]
def catN (p : Nat → List UInt8) : Nat → List UInt8
  | 0 => []
  | i + 1 => catN p i ++ p i
theorem catN_front (p : Nat → List UInt8) : ∀ r, catN p (r + 1) = p 0 ++ catN (fun i => p (i + 1)) r
  | 0 => by simp [catN]
  | r + 1 => by rw [catN, catN_front p r, catN, List.append_assoc]
/-- A value's key. -/
def keyV : VT → List UInt8
  | .no => []
  | .mk k b n s m f q g =>
    if k = 2 then 4 :: numK n
    else if k = 3 then wordK s.data.toList
    else if k = 4 ∨ k = 5 then UInt8.ofNat (k + 2).toNat :: (catN (fun i => (if k = 5 then wordK (g i).data.toList else []) ++ keyV (f i)) m ++ [0])
    else [UInt8.ofNat (rankV (.mk k b n s m f q g)).toNat]

theorem esc_lex : ∀ a b x y, cmpS (esc a ++ 0 :: 1 :: x) (esc b ++ 0 :: 1 :: y) = if cmpS a b ≠ 0 then cmpS a b else cmpS x y
  | [], [], x, y => by simp [esc, cmpS]
  | [], b :: t, x, y => by
    rw [esc, esc]
    by_cases h : b = 0
    · subst h; simp [cmpS]
    · have h0 : (0 : UInt8) < b := by
        rcases u8_tri 0 b with u | u | u
        · exact u.1
        · have := UInt8.lt_iff_toNat_lt.1 u.1; simp at this
        · exact absurd u.1.symm h
      rw [if_neg h]; simp [cmpS, h0]
  | a :: s, [], x, y => by
    rw [esc, esc]
    by_cases h : a = 0
    · subst h; simp [cmpS]
    · have h0 : (0 : UInt8) < a := by
        rcases u8_tri 0 a with u | u | u
        · exact u.1
        · have := UInt8.lt_iff_toNat_lt.1 u.1; simp at this
        · exact absurd u.1.symm h
      have h1 : ¬ a < 0 := fun e => by have := UInt8.lt_iff_toNat_lt.1 e; simp at this
      rw [if_neg h]; simp [cmpS, h0, h1]
  | a :: s, b :: t, x, y => by
    have ih := esc_lex s t x y
    have z : ∀ c : UInt8, ¬ c < 0 := fun c e => by have := UInt8.lt_iff_toNat_lt.1 e; simp at this
    rw [esc, esc]
    by_cases ha : a = 0
    · by_cases hb : b = 0
      · subst ha hb
        rw [if_pos rfl, if_pos rfl]
        simp only [List.cons_append, cmpS]
        simp only [if_neg (z 0), show ¬ (255 : UInt8) < 255 by decide, if_false, ih]
      · subst ha
        have h0 : (0 : UInt8) < b := by
          rcases u8_tri 0 b with u | u | u
          · exact u.1
          · exact absurd u.1 (z b)
          · exact absurd u.1.symm hb
        rw [if_pos rfl, if_neg hb]
        simp [cmpS, h0]
    · by_cases hb : b = 0
      · subst hb
        have h0 : (0 : UInt8) < a := by
          rcases u8_tri 0 a with u | u | u
          · exact u.1
          · exact absurd u.1 (z a)
          · exact absurd u.1.symm ha
        rw [if_pos rfl, if_neg ha]
        simp [cmpS, h0, z a]
      · rw [if_neg ha, if_neg hb, List.cons_append, List.cons_append, cmpS, cmpS, ih]
        rcases u8_tri a b with u | u | u
        · rw [if_pos u.1, if_pos u.1]; rfl
        · rw [if_neg u.2.1, if_pos u.1, if_neg u.2.1, if_pos u.1]; rfl
        · rw [if_neg u.2.1, if_neg u.2.2, if_neg u.2.1, if_neg u.2.2]
theorem word_lex (a b x y : List UInt8) : cmpS (wordK a ++ x) (wordK b ++ y) = if cmpS a b ≠ 0 then cmpS a b else cmpS x y := by
  unfold wordK
  rw [List.cons_append, List.cons_append, cmpS, if_neg (by decide), if_neg (by decide)]
  have := esc_lex a b x y
  simpa using this

theorem byte_cmp (a b : Nat) (x y : List UInt8) (ha : a < 256) (hb : b < 256) : cmpS (UInt8.ofNat a :: x) (UInt8.ofNat b :: y) = if a < b then -1 else if b < a then 1 else cmpS x y := by
  rw [cmpS]
  have e1 : (UInt8.ofNat a < UInt8.ofNat b) ↔ a < b := by rw [UInt8.lt_iff_toNat_lt]; simp [Nat.mod_eq_of_lt ha, Nat.mod_eq_of_lt hb]
  have e2 : (UInt8.ofNat b < UInt8.ofNat a) ↔ b < a := by rw [UInt8.lt_iff_toNat_lt]; simp [Nat.mod_eq_of_lt ha, Nat.mod_eq_of_lt hb]
  simp only [e1, e2]
/-- Figures in base 256, from the highest on. -/
def figs (N : Nat) : Nat → List UInt8
  | 0 => []
  | j + 1 => UInt8.ofNat (N / 256 ^ j % 256) :: figs N j
theorem figs_lex (A B : Nat) : ∀ (j : Nat) (x y : List UInt8), cmpS (figs A j ++ x) (figs B j ++ y) = if A % 256 ^ j < B % 256 ^ j then -1 else if B % 256 ^ j < A % 256 ^ j then 1 else cmpS x y
  | 0, x, y => by simp [figs, Nat.mod_one]
  | j + 1, x, y => by
    rw [figs, figs, List.cons_append, List.cons_append, byte_cmp _ _ _ _ (Nat.mod_lt _ (by omega)) (Nat.mod_lt _ (by omega)), figs_lex A B j x y]
    have e : ∀ C : Nat, C % 256 ^ (j + 1) = 256 ^ j * (C / 256 ^ j % 256) + C % 256 ^ j := fun C => by
      rw [Nat.pow_succ, Nat.mod_mul, Nat.add_comm]
    have lA : A % 256 ^ j < 256 ^ j := Nat.mod_lt _ (Nat.pow_pos (by omega))
    have lB : B % 256 ^ j < 256 ^ j := Nat.mod_lt _ (Nat.pow_pos (by omega))
    rw [e A, e B]
    generalize A / 256 ^ j % 256 = p
    generalize B / 256 ^ j % 256 = r
    generalize A % 256 ^ j = a at *
    generalize B % 256 ^ j = b at *
    generalize 256 ^ j = K at *
    rcases Nat.lt_trichotomy p r with h | h | h
    · have : K * p + K ≤ K * r := by rw [← Nat.mul_succ]; exact Nat.mul_le_mul_left K h
      rw [if_pos h, if_pos (by omega)]
    · subst h
      rw [if_neg (by omega), if_neg (by omega)]
      simp only [Nat.add_lt_add_iff_left]
    · have : K * r + K ≤ K * p := by rw [← Nat.mul_succ]; exact Nat.mul_le_mul_left K h
      rw [if_neg (by omega), if_pos h, if_neg (by omega), if_pos (by omega)]
theorem num_lex (a b : Int) (x y : List UInt8) (ha : heldB a = true) (hb : heldB b = true) : cmpS (numK a ++ x) (numK b ++ y) = if cmpI a b ≠ 0 then cmpI a b else cmpS x y := by
  have a1 := heldB_yes ha
  have b1 := heldB_yes hb
  have e : ∀ c : Int, numK c = figs (c + 9223372036854775808).toNat 8 := fun _ => rfl
  rw [e, e, figs_lex, Nat.mod_eq_of_lt (by omega), Nat.mod_eq_of_lt (by omega)]
  unfold cmpI
  by_cases h1 : a < b
  · rw [if_pos (by omega), if_pos h1]; rfl
  · by_cases h2 : b < a
    · rw [if_neg (by omega), if_pos (by omega), if_neg h1, if_pos h2]; rfl
    · rw [if_neg (by omega), if_neg (by omega), if_neg h1, if_neg h2]; rfl
theorem key_head (t : VT) (ht : Fit t) : ∃ r, keyV t = UInt8.ofNat (rankV t).toNat :: r ∧ 1 ≤ rankV t ∧ rankV t ≤ 7 := by
  have hk := ht.kind
  rcases t with _ | ⟨k, b, n, s, m, f, q, g⟩
  · exact absurd hk.2 (by decide)
  have hk : 0 ≤ k ∧ k ≤ 5 := hk
  have hr : rankV (.mk k b n s m f q g) = if k = 0 then 1 else if k = 1 then (if b = true then 3 else 2) else k + 2 := rfl
  unfold keyV
  by_cases h2 : k = 2
  · subst h2; rw [if_pos rfl, hr]; exact ⟨_, rfl, by simp, by simp⟩
  · by_cases h3 : k = 3
    · subst h3; rw [if_neg h2, if_pos rfl, hr]; exact ⟨_, rfl, by simp, by simp⟩
    · by_cases h4 : k = 4 ∨ k = 5
      · rw [if_neg h2, if_neg h3, if_pos h4, hr, if_neg (by omega), if_neg (by omega)]
        exact ⟨_, rfl, by omega, by omega⟩
      · rw [if_neg h2, if_neg h3, if_neg h4]
        refine ⟨_, rfl, ?_, ?_⟩ <;> rw [hr]
        · by_cases h0 : k = 0
          · rw [if_pos h0]; omega
          · rw [if_neg h0, if_pos (by omega)]; split <;> omega
        · by_cases h0 : k = 0
          · rw [if_pos h0]; omega
          · rw [if_neg h0, if_pos (by omega)]; split <;> omega

/-- Two rows of parts, each with an end. -/
theorem row_lex : ∀ (r r' : Nat) (p p' : Nat → List UInt8) (c : Nat → Int) (x y : List UInt8),
    (∀ i, i < r → i < r' → ∀ x y, cmpS (p i ++ x) (p' i ++ y) = if c i ≠ 0 then c i else cmpS x y) →
    (∀ i, i < r → ∃ h t, p i = h :: t ∧ (0 : UInt8) < h) → (∀ i, i < r' → ∃ h t, p' i = h :: t ∧ (0 : UInt8) < h) →
    cmpS (catN p r ++ 0 :: x) (catN p' r' ++ 0 :: y) = if (if firstE c (min r r') ≠ 0 then firstE c (min r r') else cmpI r r') ≠ 0 then (if firstE c (min r r') ≠ 0 then firstE c (min r r') else cmpI r r') else cmpS x y
  | 0, 0, p, p', c, x, y, _, _, _ => by simp [catN, firstE, cmpI, cmpS]
  | 0, r' + 1, p, p', c, x, y, _, _, h => by
    obtain ⟨b, t, e, hb⟩ := h 0 (by omega)
    have e2 : cmpI ((0 : Nat) : Int) ((r' + 1 : Nat) : Int) = -1 := if_pos (by omega)
    rw [catN_front, e, e2]
    simp [catN, firstE, cmpS, hb]
  | r + 1, 0, p, p', c, x, y, _, h, _ => by
    obtain ⟨b, t, e, hb⟩ := h 0 (by omega)
    have nb : ¬ b < 0 := fun e => by have := UInt8.lt_iff_toNat_lt.1 e; simp at this
    have e2 : cmpI ((r + 1 : Nat) : Int) ((0 : Nat) : Int) = 1 := by unfold cmpI; rw [if_neg (by omega), if_pos (by omega)]
    rw [catN_front, e, e2]
    simp [catN, firstE, cmpS, hb, nb]
  | r + 1, r' + 1, p, p', c, x, y, h1, h2, h3 => by
    have ih := row_lex r r' (fun i => p (i + 1)) (fun i => p' (i + 1)) (fun i => c (i + 1)) x y (fun i a b => h1 (i + 1) (by omega) (by omega)) (fun i a => h2 (i + 1) (by omega)) (fun i a => h3 (i + 1) (by omega))
    have e3 : cmpI ((r + 1 : Nat) : Int) ((r' + 1 : Nat) : Int) = cmpI r r' := by
      unfold cmpI
      by_cases q1 : r < r'
      · rw [if_pos (by omega), if_pos (by omega)]
      · by_cases q2 : r' < r
        · rw [if_neg (by omega), if_pos (by omega), if_neg (by omega), if_pos (by omega)]
        · rw [if_neg (by omega), if_neg (by omega), if_neg (by omega), if_neg (by omega)]
    rw [catN_front, catN_front, List.append_assoc, List.append_assoc, h1 0 (by omega) (by omega), ih, show min (r + 1) (r' + 1) = min r r' + 1 by omega, firstE_front, e3]
    by_cases h0 : c 0 = 0
    · simp [h0]
    · simp [h0]

theorem name_cmp (a b : ByteArray) : (a = b) ↔ cmpS a.data.toList b.data.toList = 0 := by
  constructor
  · rintro rfl; exact cmpS_self _
  · intro h
    have := cmpS_eq _ _ h
    obtain ⟨⟨a⟩⟩ := a
    obtain ⟨⟨b⟩⟩ := b
    simp at this
    rw [this]
theorem u8_pos (a : Nat) (h1 : 1 ≤ a) (h2 : a < 256) : (0 : UInt8) < UInt8.ofNat a := by rw [UInt8.lt_iff_toNat_lt]; simp [Nat.mod_eq_of_lt h2]; omega
/-- KEYS HAVE THE ORDER OF THEIR VALUES, whatever stands behind. -/
theorem key_lex : ∀ (t u : VT), Fit t → Fit u → ∀ x y, cmpS (keyV t ++ x) (keyV u ++ y) = if cmpV t u ≠ 0 then cmpV t u else cmpS x y
  | .no, _, ht, _, _, _ => absurd ht.kind.2 (by decide)
  | .mk k b n s m f q g, u, ht, hu, x, y => by
    obtain ⟨r1, e1, l1, g1⟩ := key_head _ ht
    obtain ⟨r2, e2, l2, g2⟩ := key_head _ hu
    by_cases hr : rankV (.mk k b n s m f q g) = rankV u
    · have hkt := ht.kind
      have hku := hu.kind
      have uk : u.k = k ∨ ((k = 0 ∨ k = 1) ∧ (u.k = 0 ∨ u.k = 1)) := by
        have hkt : 0 ≤ k ∧ k ≤ 5 := hkt
        unfold rankV at hr
        simp only [VT.k, VT.b] at hr hku ⊢
        repeat' split at hr
        all_goals omega
      have hkt : 0 ≤ k ∧ k ≤ 5 := hkt
      rcases u with _ | ⟨k', b', n', s', m', f', q', g'⟩
      · exact absurd hu.kind.2 (by decide)
      have uk : k' = k ∨ ((k = 0 ∨ k = 1) ∧ (k' = 0 ∨ k' = 1)) := uk
      have hn : ¬ (rankV (.mk k b n s m f q g) ≠ rankV (.mk k' b' n' s' m' f' q' g')) := fun h => h hr
      by_cases h2 : k = 2
      · have hk' : k' = 2 := by omega
        subst h2 hk'
        have hc : cmpV (.mk 2 b n s m f q g) (.mk 2 b' n' s' m' f' q' g') = cmpI n n' := by unfold cmpV; rw [if_neg hn, if_pos rfl]; rfl
        rw [hc]
        unfold keyV
        rw [if_pos rfl, if_pos rfl, List.cons_append, List.cons_append, cmpS, if_neg (by decide), if_neg (by decide)]
        exact num_lex n n' x y (ht.num rfl) (hu.num rfl)
      · by_cases h3 : k = 3
        · have hk' : k' = 3 := by omega
          subst h3 hk'
          have hc : cmpV (.mk 3 b n s m f q g) (.mk 3 b' n' s' m' f' q' g') = cmpS s.data.toList s'.data.toList := by unfold cmpV; rw [if_neg hn, if_neg (by omega), if_pos rfl]; rfl
          rw [hc]
          unfold keyV
          rw [if_neg (by omega), if_pos rfl, if_neg (by omega), if_pos rfl]
          exact word_lex _ _ x y
        · by_cases h4 : k = 4 ∨ k = 5
          · have hk' : k' = k := by omega
            subst hk'
            have hc : cmpV (.mk k' b n s m f q g) (.mk k' b' n' s' m' f' q' g') = (if firstE (fun i => if k' = 5 ∧ g i ≠ g' i then cmpS (g i).data.toList (g' i).data.toList else cmpV (f i) (f' i)) (min m m') ≠ 0
                then firstE (fun i => if k' = 5 ∧ g i ≠ g' i then cmpS (g i).data.toList (g' i).data.toList else cmpV (f i) (f' i)) (min m m')
                else cmpI m m') := by rw [cmpV, if_neg hn, if_neg h2, if_neg h3, if_pos h4]; rfl
            rw [hc]
            unfold keyV
            rw [if_neg h2, if_neg h3, if_pos h4, if_neg h2, if_neg h3, if_pos h4, List.cons_append, List.cons_append, cmpS]
            rw [if_neg (by rcases h4 with e | e <;> subst e <;> decide), if_neg (by rcases h4 with e | e <;> subst e <;> decide), List.append_assoc, List.append_assoc]
            have hd : ∀ (t : VT), Fit t → ∀ (w : ByteArray), ∃ h r, ((if k' = 5 then wordK w.data.toList else []) ++ keyV t) = h :: r ∧ (0 : UInt8) < h := by
              intro t ht w
              by_cases h5 : k' = 5
              · rw [if_pos h5]; exact ⟨5, _, rfl, by decide⟩
              · rw [if_neg h5]
                obtain ⟨r, e, l, g⟩ := key_head t ht
                exact ⟨_, r, e, u8_pos _ (by omega) (by omega)⟩
            refine row_lex m m' _ _ (fun i => if k' = 5 ∧ g i ≠ g' i then cmpS (g i).data.toList (g' i).data.toList else cmpV (f i) (f' i)) x y ?_ (fun i hi => hd _ (ht.item h4 hi).1 _) (fun i hi => hd _ (hu.item h4 hi).1 _)
            intro i hi hi' x y
            have ih := key_lex (f i) (f' i) (ht.item h4 hi).1 (hu.item h4 hi').1 x y
            by_cases h5 : k' = 5
            · simp only [if_pos h5, List.append_assoc]
              rw [word_lex, ih]
              by_cases hn : g i = g' i
              · simp [hn, cmpS_self]
              · have hn2 : cmpS (g i).data.toList (g' i).data.toList ≠ 0 := fun e => hn ((name_cmp _ _).2 e)
                simp [hn, hn2, h5]
            · simp only [if_neg h5, List.nil_append]
              rw [ih]
              simp [h5]
          · have hc : cmpV (.mk k b n s m f q g) (.mk k' b' n' s' m' f' q' g') = 0 := by rw [cmpV, if_neg hn, if_neg h2, if_neg h3, if_neg h4]
            rw [hc]
            unfold keyV
            rw [if_neg h2, if_neg h3, if_neg h4, if_neg (by omega), if_neg (by omega), if_neg (by omega), hr, List.cons_append, List.cons_append, cmpS]
            rw [if_neg (fun e => by have := UInt8.lt_iff_toNat_lt.1 e; omega), if_neg (fun e => by have := UInt8.lt_iff_toNat_lt.1 e; omega)]
            simp
    · have hc : cmpV (.mk k b n s m f q g) u = cmpI (rankV (.mk k b n s m f q g)) (rankV u) := by rw [cmpV, if_pos hr]
      rw [hc, e1, e2, List.cons_append, List.cons_append, byte_cmp _ _ _ _ (by omega) (by omega)]
      unfold cmpI
      by_cases h1 : rankV (.mk k b n s m f q g) < rankV u
      · rw [if_pos (by omega)]; simp [h1]
      · rw [if_neg (by omega), if_pos (by omega)]; simp [h1, show rankV u < rankV (.mk k b n s m f q g) by omega]
theorem cmpV_key (t u : VT) (ht : Fit t) (hu : Fit u) : cmpV t u = cmpS (keyV t) (keyV u) := by
  have := key_lex t u ht hu [] []
  rw [List.append_nil, List.append_nil] at this
  rw [this]
  by_cases h : cmpV t u = 0
  · simp [h, cmpS]
  · simp [h]
theorem cmpV_anti (t u : VT) (ht : Fit t) (hu : Fit u) : cmpV u t = - cmpV t u := by
  rw [cmpV_key u t hu ht, cmpV_key t u ht hu, cmpS_anti]
theorem cmpV_trans (t u v : VT) (ht : Fit t) (hu : Fit u) (hv : Fit v) (h : cmpV t u ≤ 0) (k : cmpV u v ≤ 0) : cmpV t v ≤ 0 := by
  rw [cmpV_key _ _ ht hu] at h
  rw [cmpV_key _ _ hu hv] at k
  rw [cmpV_key _ _ ht hv]
  exact cmpS_trans _ _ _ h k
/-- No key begins another one. -/
theorem key_prefix (t u : VT) (ht : Fit t) (hu : Fit u) (z : List UInt8) (h : keyV u = keyV t ++ z) : z = [] := by
  have h1 := key_lex t u ht hu z []
  rw [List.append_nil, h, cmpS_self] at h1
  by_cases hc : cmpV t u = 0
  · rw [if_neg (by simp [hc])] at h1
    exact cmpS_eq _ _ h1.symm
  · rw [if_pos hc] at h1
    exact absurd h1.symm hc
end Go.Proofs.YtpmhefdalhohdaaDoor
