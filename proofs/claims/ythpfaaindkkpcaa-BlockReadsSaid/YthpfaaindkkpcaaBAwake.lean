/- block.Pack; the law's awake. -/
import Derived.Test.YthpfaaindkkpcaaBPack
import Derived.Test.YthpfaaindkkpcaaBFollow2
namespace Go.Proofs.Ythpfaaindkkpcaa
open Go.RowKit Go.Maps
set_option linter.unusedVariables false
set_option linter.unusedSimpArgs false

theorem right_is {A : Option Addr} {n c : Nat} {P : Nat → Pst} {v : Bool} (h : rightB n P = v) (w : World) (hI : Psts w A n P) : Calls Try.prog 18 #[.slice A n c] w fun e w' => e = .returned (.bool v) ∧ Below w.heap.size w w' := by
  rw [← h]; exact right_any A n c P w hI
theorem own_below {w : World} {base B : Nat} {v : Value} {xs : List Nat} (h : OwnU w B v xs) (hb : base ≤ B) : OwnU w base v xs := by
  obtain ⟨hl, h0 | ⟨g, cap, cur, hv, hg, hh, r⟩⟩ := h
  · exact ⟨hl, .inl h0⟩
  · exact ⟨hl, .inr ⟨g, cap, cur, hv, by omega, hh, r⟩⟩
theorem pack_no {A : Option Addr} {n c : Nat} {P : Nat → Pst} (h : rightB n P = false) (w : World) (hI : Psts w A n P) : Calls Try.prog 11 #[.slice A n c] w fun e w' => e = .returned (.tuple #[.slice none 0 0, .int .i64 5]) ∧ Below w.heap.size w w' := by
  have HR := Lib.hid (right_is (c := c) h w hI)
  clear h hI
  go_enter Try.func11, Try.ntmps11
  go_wp2_with (go_at_call 18; (with_reducible refine HR.out.mono ?_); rintro e w1 ⟨rfl, l1⟩; have L1 := Lib.hid l1; clear l1)
  go_ret2
  exact ⟨rfl, L1.out⟩
theorem pack_yes {A : Option Addr} {n c : Nat} {P : Nat → Pst} (h : rightB n P = true) (w : World) (hI : Psts w A n P) : Calls Try.prog 11 #[.slice A n c] w fun e w' => ∃ v, e = .returned (.tuple #[v, .int .i64 0]) ∧ OwnU w' w.heap.size v (packL n P) ∧ Below w.heap.size w w' := by
  have HR := Lib.hid (right_is (c := c) h w hI)
  have HP : Hid (∀ W, Below w.heap.size w W → Calls Try.prog 19 #[.slice A n c] W fun e w' => ∃ v, e = .returned v ∧ OwnU w' W.heap.size v (packL n P) ∧ Below W.heap.size W w') := Lib.hid fun W l => packed_any A n c P W (hI.below l (Nat.le_refl _)) (of_decide_eq_true h)
  clear h hI
  go_enter Try.func11, Try.ntmps11
  go_wp2_with (first
    | (go_at_call 18; (with_reducible refine HR.out.mono ?_); rintro e w1 ⟨rfl, l1⟩; have L1 := Lib.hid l1; clear l1)
    | (go_at_call 19; (with_reducible refine (HP.out _ L1.out).mono ?_); rintro e w2 ⟨v, rfl, h2⟩; have H2 := Lib.hid h2; clear h2))
  go_ret2
  exact ⟨_, rfl, own_below H2.out.1 L1.out.size, L1.out.trans (H2.out.2.mono L1.out.size)⟩
def strU (xs : List Nat) : ByteArray := ⟨(xs.map UInt8.ofNat).toArray⟩
theorem strF_U (xs : List Nat) : strF (fun i => xs.getD i 0) xs.length = strU xs := by
  apply ByteArray.ext
  apply Array.ext'
  rw [strF_list]
  show _ = xs.map UInt8.ofNat
  apply List.ext_getElem
  · simp
  · intro i h1 h2
    simp at h1
    simp [List.getD_eq_getElem?_getD, h1]
theorem conv_own {W : World} {base : Nat} {A : Option Addr} {n c : Nat} {xs : List Nat} (h : OwnU W base (.slice A n c) xs) (hw : ∀ x ∈ xs, x < 256) :
    (convert 22 9 (.slice A n c)).run Try.prog W = .ok (.string (strU xs)) W := by
  obtain ⟨hn, hb⟩ := own_bytes h hw
  subst hn
  rw [conv_any c hb, strF_U]
theorem own_isU {w : World} {base : Nat} {v : Value} {xs : List Nat} (h : OwnU w base v xs) : ∃ A c, v = .slice A xs.length c := by
  obtain ⟨hl, ⟨hv, h0⟩ | ⟨g, cap, cur, hv, hg, hh, r⟩⟩ := h
  · rw [h0]; exact ⟨none, 0, hv⟩
  · exact ⟨_, _, hv⟩
def f04 (i : Nat) : Int := if i = 0 then 0 else 4
def f15 (i : Nat) : Int := if i = 0 then 1 else 5
def f29 (i : Nat) : Int := if i = 0 then 2 else 9
def p300 (A : Option Addr) (_ : Nat) : Pst := ⟨300, 5, A, 2, 2, f04⟩
theorem two_ints (W : World) (b : Nat) (x y : Int) (f : Nat → Int) (h0 : f 0 = x) (h1 : f 1 = y) (hx : In64 x) (hy : In64 y) (c0 : W.cell? ⟨b, 0, none⟩ = some (.int .i64 x)) (c1 : W.cell? ⟨b, 1, none⟩ = some (.int .i64 y)) : Ints W (some ⟨b, 0, none⟩) 2 f := by
  refine ⟨by omega, fun i hi => ?_, fun _ => ⟨b, 0, rfl, fun i hi => ?_⟩⟩
  · match i, hi with
    | 0, _ => rw [h0]; exact hx
    | 1, _ => rw [h1]; exact hy
  · match i, hi with
    | 0, _ => rw [h0]; exact c0
    | 1, _ => rw [h1]; exact c1
theorem right300 (A : Option Addr) : rightB 1 (p300 A) = true := by
  refine decide_eq_true ⟨by omega, fun i hi => ?_⟩
  obtain rfl : i = 0 := by omega
  refine ⟨?_, ?_⟩
  · unfold aheadF; rw [if_pos rfl]; show (-1 : Int) < 300; decide
  · show MayP 300 5 2 f04
    decide
theorem pack300 (A : Option Addr) : packL 1 (p300 A) = [1, 130, 44, 4, 1, 0, 3] := by
  have n1 : numL 1 = [1] := by simp [numL, hi_zero]
  have n300 : numL 300 = [130, 44] := by simp [numL, hi_zero, hi_pos]
  have n4 : numL 4 = [4] := by simp [numL, hi_zero]
  have n0 : numL 0 = [0] := by simp [numL, hi_zero]
  have n3 : numL 3 = [3] := by simp [numL, hi_zero]
  have g1 : gapN 300 (-1) = 300 := by decide
  have g2 : gapN 5 0 = 4 := by decide
  have g3 : gapN ((2 : Nat) : Int) 0 = 1 := by decide
  have g4 : gapN 0 (-1) = 0 := by decide
  have g5 : gapN 4 0 = 3 := by decide
  simp [packL, allL, oneL, headL, atsL, p300, aheadF, f04, n1, n300, n4, n0, n3, g1, g2, g4, g5]
  simp [gapN, n1]
theorem awake_pack (w : World) : Calls Try.prog 11 #[.slice (some ⟨w.heap.size + 1, 0, none⟩) 1 1] ((w.alloc (.cells #[.int .i64 0, .int .i64 4] 3)).alloc (.cells #[.int .i64 300, .int .i64 5, .slice (some ⟨w.heap.size, 0, none⟩) 2 2] 48)) fun e w' => ∃ A c, e = .returned (.tuple #[.slice A 7 c, .int .i64 0]) ∧ OwnU w' w.heap.size (.slice A 7 c) [1, 130, 44, 4, 1, 0, 3] ∧ Below w.heap.size w w' := by
  have hB : Below w.heap.size w ((w.alloc (.cells #[.int .i64 0, .int .i64 4] 3)).alloc (.cells #[.int .i64 300, .int .i64 5, .slice (some ⟨w.heap.size, 0, none⟩) 2 2] 48)) := ((Below.refl _ _).alloc (Nat.le_refl _) _).alloc (by simp) _
  have hI : Psts ((w.alloc (.cells #[.int .i64 0, .int .i64 4] 3)).alloc (.cells #[.int .i64 300, .int .i64 5, .slice (some ⟨w.heap.size, 0, none⟩) 2 2] 48)) (some ⟨w.heap.size + 1, 0, none⟩) 1 (p300 (some ⟨w.heap.size, 0, none⟩)) := by
    refine ⟨by omega, fun i hi => ⟨?_, by show In64 300; unfold In64; omega, by show In64 5; unfold In64; omega, fun e => by cases e⟩, fun _ => ⟨_, _, rfl, fun i hi => ?_⟩⟩
    · exact two_ints _ _ 0 4 f04 rfl rfl (by unfold In64; omega) (by unfold In64; omega) (by go_simp) (by go_simp)
    · obtain rfl : i = 0 := by omega
      exact ⟨by go_simp; rfl, by go_simp; rfl, by go_simp; exact ⟨rfl, rfl, rfl⟩⟩
  refine (pack_yes (right300 _) _ hI).mono ?_
  rintro e w' ⟨v, rfl, ho, hb⟩
  rw [pack300] at ho
  obtain ⟨A, c, rfl⟩ := own_isU ho
  exact ⟨A, c, rfl, own_below ho hB.size, hB.trans (hb.mono hB.size)⟩
theorem own_belowU {w w' : World} {base : Nat} {v : Value} {xs : List Nat} (h : OwnU w base v xs) (hb : Below w.heap.size w w') : OwnU w' base v xs := by
  obtain ⟨hl, h0 | ⟨g, cap, cur, hv, hg, hh, r⟩⟩ := h
  · exact ⟨hl, .inl h0⟩
  · exact ⟨hl, .inr ⟨g, cap, cur, hv, hg, (hb.block g (Array.getElem?_eq_some_iff.1 hh).1).trans hh, r⟩⟩
theorem awake_follow (w : World) : Calls Try.prog 17 #[.agg #[.int .i64 0, .int .i64 10, .slice (some ⟨w.heap.size, 0, none⟩) 2 2], .agg #[.int .i64 0, .int .i64 10, .slice (some ⟨w.heap.size + 1, 0, none⟩) 2 2], .int .i64 1] ((w.alloc (.cells #[.int .i64 1, .int .i64 5] 3)).alloc (.cells #[.int .i64 2, .int .i64 9] 3)) fun e w' => ∃ g c, e = .returned (.slice (some ⟨g, 0, none⟩) 1 c) ∧ w'.cell? ⟨g, 0, none⟩ = some (.int .i64 1) ∧ Below w.heap.size w w' := by
  have hB : Below w.heap.size w ((w.alloc (.cells #[.int .i64 1, .int .i64 5] 3)).alloc (.cells #[.int .i64 2, .int .i64 9] 3)) := ((Below.refl _ _).alloc (Nat.le_refl _) _).alloc (by simp) _
  refine (follow_any 0 10 (some ⟨w.heap.size, 0, none⟩) 2 2 f15 0 10 (some ⟨w.heap.size + 1, 0, none⟩) 2 2 f29 1 _ (two_ints _ _ 1 5 f15 rfl rfl (by unfold In64; omega) (by unfold In64; omega) (by go_simp) (by go_simp)) (two_ints _ _ 2 9 f29 rfl rfl (by unfold In64; omega) (by unfold In64; omega) (by go_simp) (by go_simp))).mono ?_
  rintro e w' ⟨v, rfl, ho, hb⟩
  rw [show followL 0 10 2 f15 0 10 2 f29 1 = [1] by decide +kernel] at ho
  obtain ⟨A, c, rfl, hA⟩ := own_slice ho
  obtain ⟨g, rfl, hg⟩ := hA (by simp)
  obtain ⟨b, o, e, hc⟩ := (own_ints ho (by intro x hx; simp at hx; subst hx; omega)).2.2 (by simp)
  injection e with e
  injection e with e1 e2
  subst e1 e2
  exact ⟨g, c, rfl, hc 0 (by simp), hB.trans (hb.mono hB.size)⟩
theorem strAwake : strU [1, 130, 44, 4, 1, 0, 3] = ⟨#[1, 130, 44, 4, 1, 0, 3]⟩ := by rfl
theorem awake_any (w : World) : Calls Try.prog 9 #[] w fun e w' => e = .returned (.bool true) ∧ Below w.heap.size w w' := by
  have H1 := Lib.hid (awake_pack w)
  go_enter Try.func9, Try.ntmps9
  go_wp2_with (first
    | (go_at_call 11; (with_reducible refine H1.out.mono ?_); rintro e w1 ⟨A, c, rfl, ho, hb⟩; have HO := Lib.hid ho; have HB := Lib.hid hb; clear ho hb)
    | (go_at_call 17; (with_reducible refine (awake_follow w1).mono ?_); rintro e w2 ⟨g, c2, rfl, hg, hb⟩; have hcv := conv_own (own_belowU HO.out hb) (by decide); rw [strAwake] at hcv; have HB2 := Lib.hid hb; clear hb))
  go_ret
  exact ⟨rfl, HB.out.trans (HB2.out.mono HB.out.size)⟩
end Go.Proofs.Ythpfaaindkkpcaa
