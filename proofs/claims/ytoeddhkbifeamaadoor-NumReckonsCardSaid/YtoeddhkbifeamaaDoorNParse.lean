/- num.Parse. -/
import Derived.Test.YtoeddhkbifeamaaDoorNValue
namespace Go.Proofs.YtoeddhkbifeamaaDoor
open Go.RowKit
set_option linter.unusedVariables false

def Good (s : ByteArray) (p : Pc) : Prop := (Figs p.whole.data.toList ∧ p.whole.size ≤ s.size + 1) ∧ (Figs p.rest.data.toList ∧ p.rest.size ≤ s.size + 1) ∧ (Figs p.exponent.data.toList ∧ p.exponent.size ≤ s.size + 1)
def Good1 (s X : ByteArray) : Prop := Figs X.data.toList ∧ X.size ≤ s.size + 1
theorem good_nil (s : ByteArray) : Good1 s ⟨#[]⟩ := ⟨figs_nil, Nat.zero_le _⟩
theorem good_zero (s : ByteArray) : Good1 s ⟨#[48]⟩ := ⟨figs_zeros 1, by show 1 ≤ _; omega⟩
theorem good_run (s : ByteArray) (i : Nat) : Good1 s (s.extract i (i + runAt s i)) := ⟨figs_run s i, by rw [ByteArray.size_extract]; omega⟩
theorem cutTail_good (s : ByteArray) (b : Bool) (wh re : ByteArray) (i : Nat) (h1 : Good1 s wh) (h2 : Good1 s re) : Good s (cutTail s b wh re i) := by
  unfold cutTail
  split
  · split
    · exact ⟨h1, h2, good_nil s⟩
    · exact ⟨h1, h2, good_run s _⟩
  · exact ⟨h1, h2, good_nil s⟩
theorem cutDot_good (s : ByteArray) (b : Bool) (wh : ByteArray) (i : Nat) (h1 : Good1 s wh) : Good s (cutDot s b wh i) := by
  unfold cutDot
  split
  · split
    · exact ⟨h1, good_nil s, good_nil s⟩
    · exact cutTail_good _ _ _ _ _ h1 (good_run s _)
  · exact cutTail_good _ _ _ _ _ h1 (good_nil s)
theorem cutP_good (s : ByteArray) : Good s (cutP s) := by
  unfold cutP
  split
  · exact cutDot_good _ _ _ _ (good_zero s)
  · split
    · exact ⟨good_nil s, good_nil s, good_nil s⟩
    · exact cutDot_good _ _ _ _ (good_run s _)

set_option maxHeartbeats 4000000 in
set_option maxRecDepth 100000 in
theorem parse_any (s : ByteArray) (w : World) (hs : s.size ≤ 9223372036854775807) :
    Calls Tryd.prog 9 #[.string s] w fun e w' => e = .returned (.tuple #[.int .i64 (parseV s), .int .i64 (parseE s)]) ∧ Below w.heap.size w w' := by
  by_cases hb : 65536 < s.size
  · have HV := Lib.hid (show parseV s = 0 from if_pos hb)
    have HE := Lib.hid (show parseE s = 9 from if_pos hb)
    go_enter Tryd.func9, Tryd.ntmps9
    go_wp2
    go_ret2
    exact ⟨ret_ii HV.out.symm HE.out.symm, Below.refl _ _⟩
  · obtain ⟨g1, g2, g3⟩ := cutP_good s
    have HB := Lib.hid hb
    have C := Lib.hid fun W => cut_any s W hs
    have CV := Lib.hid fun W => value_any (cutP s) W g1.1 g2.1 g3.1 (by omega) (by omega) (by omega)
    have HV := Lib.hid (show parseV s = (if (cutP s).length = 0 ∨ (cutP s).length < s.size then 0 else valV (cutP s)) from if_neg hb)
    have HE := Lib.hid (show parseE s = (if (cutP s).length = 0 ∨ (cutP s).length < s.size then 11 else valE (cutP s)) from if_neg hb)
    obtain ⟨p, hp⟩ : ∃ p, p = cutP s := ⟨_, rfl⟩
    rw [← hp] at C CV HV HE
    clear hp g1 g2 g3
    obtain ⟨b, wh, re, dn, ex, n⟩ := p
    have hb2 : s.size ≤ 65536 := by omega
    clear hb
    have C' : Hid (∀ W, Calls Tryd.prog 20 #[.string s] W (CutPost W ⟨b, wh, re, dn, ex, n⟩)) := C
    have CV' : Hid (∀ W, Calls Tryd.prog 21 #[.agg #[.bool b, .string wh, .string re, .bool dn, .string ex, .int .i64 n]] W (ValPost ⟨b, wh, re, dn, ex, n⟩ W)) := CV
    clear C CV
    go_enter Tryd.func9, Tryd.ntmps9
    go_wp2_with fail
    refine (C'.out _).mono ?_
    rintro e w1 ⟨rfl, l1⟩
    unfold Pc.val
    go_upto_region 4 with (fail)
    obtain ⟨W, hW⟩ : ∃ W, W = w1.alloc (.cells #[.bool b, .string wh, .string re, .bool dn, .string ex, .int .i64 n] 39) := ⟨_, rfl⟩
    have B0 : W.heap[w1.heap.size]? = some (.cells #[.bool b, .string wh, .string re, .bool dn, .string ex, .int .i64 n] 39 (0, 0)) := hW ▸ heap_alloc_new _ _
    have L2 := Lib.hid (show Below w.heap.size w W from hW ▸ l1.alloc l1.size _)
    rw [← hW]
    clear hW l1
    have y0 : W.cell? ⟨w1.heap.size, 0, none⟩ = some (.bool b) := cell_of_row W _ 0 _ _ _ B0
    have y1 : W.cell? ⟨w1.heap.size, 1, none⟩ = some (.string wh) := cell_of_row W _ 1 _ _ _ B0
    have y2 : W.cell? ⟨w1.heap.size, 2, none⟩ = some (.string re) := cell_of_row W _ 2 _ _ _ B0
    have y3 : W.cell? ⟨w1.heap.size, 3, none⟩ = some (.bool dn) := cell_of_row W _ 3 _ _ _ B0
    have y4 : W.cell? ⟨w1.heap.size, 4, none⟩ = some (.string ex) := cell_of_row W _ 4 _ _ _ B0
    have y5 : W.cell? ⟨w1.heap.size, 5, none⟩ = some (.int .i64 n) := cell_of_row W _ 5 _ _ _ B0
    clear B0
    by_cases h0 : n = 0
    · subst h0
      have HV2 := Lib.hid (HV.out.trans (if_pos (.inl rfl)))
      have HE2 := Lib.hid (HE.out.trans (if_pos (.inl rfl)))
      go_wp2
      go_ret2
      exact ⟨ret_ii HV2.out.symm HE2.out.symm, L2.out⟩
    · have hq : ((n : Int) == 0) = false := by simp; omega
      by_cases h1 : n < s.size
      · have HV2 := Lib.hid (HV.out.trans (if_pos (.inr h1)))
        have HE2 := Lib.hid (HE.out.trans (if_pos (.inr h1)))
        clear h0
        go_wp2
        go_ret2
        exact ⟨ret_ii HV2.out.symm HE2.out.symm, L2.out⟩
      · have HV2 := Lib.hid (HV.out.trans (if_neg (by show ¬ (n = 0 ∨ n < s.size); omega)))
        have HE2 := Lib.hid (HE.out.trans (if_neg (by show ¬ (n = 0 ∨ n < s.size); omega)))
        have h2 : decide (n < s.size) = false := decide_eq_false h1
        clear h0 h1
        go_wp2_with fail
        refine (CV'.out _).mono ?_
        rintro e w3 ⟨rfl, l3⟩
        go_wp2
        go_ret2
        exact ⟨ret_ii HV2.out.symm HE2.out.symm, L2.out.trans (l3.mono L2.out.size)⟩
end Go.Proofs.YtoeddhkbifeamaaDoor
