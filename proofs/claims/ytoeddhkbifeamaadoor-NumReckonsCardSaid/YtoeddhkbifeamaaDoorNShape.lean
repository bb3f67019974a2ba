/- A text that is put together of pieces is cut into them: plain words. -/
import Derived.Test.YtoeddhkbifeamaaDoorNDec
namespace Go.Proofs.YtoeddhkbifeamaaDoor
open Go.RowKit

def headIn (l : List UInt8) (S : List UInt8) : Bool := match l with
  | c :: _ => S.contains c
  | [] => false
section
variable {s : ByteArray} {A B : List UInt8} {i : Nat}
theorem sign_of (h : s.data.toList = A ++ B) (hi : i = A.length) (S : List UInt8) : signAt s i S = headIn B S := by
  subst hi
  unfold signAt
  rw [h, List.getElem?_append_right (Nat.le_refl _), Nat.sub_self]
  cases B <;> rfl
theorem run_of (h : s.data.toList = A ++ B) (hi : i = A.length) : runAt s i = runL B := by
  subst hi
  unfold runAt
  rw [h, List.drop_left]
theorem extract_of (h : s.data.toList = A ++ B) (hi : i = A.length) (k : Nat) : s.extract i (i + k) = ⟨(B.take k).toArray⟩ := by
  subst hi
  apply ByteArray.ext
  apply Array.toList_inj.1
  rw [Lib.extract_data, h, List.drop_left, Nat.add_sub_cancel_left]
end
theorem runL_figs : ∀ (D l : List UInt8), Figs D → (∀ c m, l = c :: m → fig c = false) → runL (D ++ l) = D.length
  | [], l, _, h2 => by
    cases l with
    | nil => rfl
    | cons c m => simp [runL, h2 c m rfl]
  | d :: D, l, h1, h2 => by
    have hd := h1 d (by simp)
    have ih := runL_figs D l (fun c hc => h1 c (by simp [hc])) h2
    simp only [runL, List.cons_append, List.takeWhile, hd, List.length_cons] at ih ⊢
    omega
/-- What no figure begins. -/
def NoFig (l : List UInt8) : Prop := ∀ c m, l = c :: m → fig c = false
theorem noFig_nil : NoFig [] := fun c m h => by cases h
/-- A whole number's figures: 0 alone, or some that 0 does not begin. -/
structure Whole (D : List UInt8) : Prop where
  figs : Figs D
  ne : D ≠ []
  zero : ∀ c m, D = c :: m → c = 48 → m = []
/-- A sign or none. -/
def Sign (P : List UInt8) : Prop := P = [45] ∨ P = []
def signB (P : List UInt8) : Bool := !P.isEmpty
theorem cut_whole {s : ByteArray} {P D R : List UInt8} (h : s.data.toList = P ++ (D ++ R)) (hP : Sign P) (hD : Whole D) (hR : NoFig R) :
    cutP s = cutDot s (signB P) ⟨D.toArray⟩ (P.length + D.length) := by
  obtain ⟨d, D', rfl⟩ : ∃ d D', D = d :: D' := by cases D with
    | nil => exact absurd rfl hD.ne
    | cons d D' => exact ⟨d, D', rfl⟩
  have hd := fig_yes (hD.figs d (by simp))
  have s0 : signAt s 0 [45] = signB P := by
    rw [sign_of (i := 0) (A := []) (B := P ++ ((d :: D') ++ R)) h rfl]
    rcases hP with rfl | rfl
    · rfl
    · have : d ≠ 45 := fun e => by subst e; revert hd; decide
      simp [headIn, signB, this]
  have t0 : tookI s 0 [45] = P.length := by
    unfold tookI
    rw [s0]
    rcases hP with rfl | rfl <;> rfl
  have s1 : signAt s P.length [48] = (d == 48) := by
    rw [sign_of h rfl]
    by_cases e : d = 48 <;> simp [headIn, e]
  have r1 : runAt s P.length = (d :: D').length := by rw [run_of h rfl]; exact runL_figs _ _ hD.figs hR
  have x1 := extract_of h rfl (d :: D').length
  rw [List.take_left] at x1
  unfold cutP
  rw [t0, s1, s0]
  by_cases hz : d = 48
  · have := hD.zero d D' rfl hz
    subst hz this
    rfl
  · rw [if_neg (by simpa using hz), r1, if_neg (by simp), x1]
theorem dot_none {s : ByteArray} {b : Bool} {wh : ByteArray} {i : Nat} (h : signAt s i [46] = false) : cutDot s b wh i = cutTail s b wh ⟨#[]⟩ i := by
  unfold cutDot
  rw [h, if_neg (by simp)]
theorem dot_some {s : ByteArray} {b : Bool} {wh : ByteArray} {A F R : List UInt8} (h : s.data.toList = A ++ (46 :: (F ++ R))) (hF : Figs F) (hn : F ≠ []) (hR : NoFig R) :
    cutDot s b wh A.length = cutTail s b wh ⟨F.toArray⟩ (A.length + 1 + F.length) := by
  have h2 : s.data.toList = (A ++ [46]) ++ (F ++ R) := by rw [h]; simp
  have hl : A.length + 1 = (A ++ [46]).length := by simp
  have r1 : runAt s (A.length + 1) = F.length := by rw [run_of h2 hl]; exact runL_figs _ _ hF hR
  have x1 := extract_of h2 hl F.length
  rw [List.take_left] at x1
  unfold cutDot
  rw [sign_of h rfl, show headIn (46 :: (F ++ R)) [46] = true from rfl, if_pos rfl, r1, if_neg (by simpa using hn), x1]
theorem tail_none {s : ByteArray} {b : Bool} {wh re : ByteArray} {i : Nat} (h : signAt s i [101, 69] = false) : cutTail s b wh re i = ⟨b, wh, re, false, ⟨#[]⟩, i⟩ := by
  unfold cutTail
  rw [h, if_neg (by simp)]
end Go.Proofs.YtoeddhkbifeamaaDoor
