/- log.Read, Latest, Clean on no disk, and Read where no log may stand. -/
import Derived.Test.YtmeijienfdefjaaLRead
namespace Go.Proofs.Ytmeijienfdefjaa
open Go.RowKit
set_option linter.unusedVariables false
set_option linter.unusedSimpArgs false

set_option maxRecDepth 100000 in
set_option maxHeartbeats 4000000 in
theorem read_bad (dv : Value) (first count epoch : Int) (w : World) (hP : ∀ W, Below w.heap.size w W → Calls Try.prog 34 #[dv, .int .i64 first, .int .i64 count] W fun e w' => e = .returned (.tuple #[.agg #[.pointer none, .int .i64 0, .int .i64 0], .int .i64 1]) ∧ Below W.heap.size W w') :
    Calls Try.prog 13 #[dv, .int .i64 first, .int .i64 count, .int .i64 epoch] w fun e w' => e = .returned (.tuple #[.slice none 0 0, .int .i64 1]) ∧ Below w.heap.size w w' := by
  obtain ⟨B0, hB0⟩ : ∃ B0 : World, B0 = ((w.alloc (.cells #[.int .i64 epoch] 3)).alloc (.cells #[.slice none 0 0] 32)).alloc (.cells #[.int .i64 0] 29) := ⟨_, rfl⟩
  have hb0 : Below w.heap.size w B0 := by
    subst hB0
    exact (((Below.refl _ _).alloc (Nat.le_refl _) _).alloc (by simp) _).alloc (by simp; omega) _
  have hs0 : B0.heap.size = w.heap.size + 3 := by subst hB0; simp
  have e1 : Boxed B0 (w.heap.size + 1) 32 (.slice none 0 0) := by subst hB0; exact (boxed_at (by simp) _ _).alloc _
  have e2 : Boxed B0 (w.heap.size + 1 + 1) 29 (.int .i64 0) := by subst hB0; exact boxed_at (by simp) _ _
  have KP := Lib.hid (hP B0 hb0)
  have HB := Lib.hid hB0
  have HE := Lib.hid (And.intro hb0 (And.intro e1 e2))
  rw [HB.out] at KP
  clear hB0 hb0 e1 e2 hP
  go_enter Try.func13, Try.ntmps13
  go_upto_region 1 with (fail)
  rw [← HB.out] at KP ⊢
  go_wp2_with (go_at_call 34; refine KP.out.mono ?_; rintro _ w1 ⟨rfl, l1⟩; have hs1 := l1.size; have b1 : Boxed w1 (w.heap.size + 1) 32 (.slice none 0 0) := (l1.block _ (by omega)).trans HE.out.2.1; have b2 : Boxed w1 (w.heap.size + 1 + 1) 29 (.int .i64 0) := (l1.block _ (by omega)).trans HE.out.2.2; have c1 := b1.cell; have c2 := b2.cell; have f1 := b1.frozen; have f2 := b2.frozen; have hl1 : w.heap.size + 1 < w1.heap.size := (by omega); have hl2 : w.heap.size + 1 + 1 < w1.heap.size := (by omega); have HL := Lib.hid (And.intro l1 (And.intro b1 b2)); clear l1 b1 b2)
  have b1 := ((Boxed.set (.slice none 0 0) HL.out.2.1).other (B' := w.heap.size + 1 + 1) (by omega) (.int .i64 1)).alloc (.cells #[.pointer none, .int .i64 0, .int .i64 0] 80)
  have b2 := (Boxed.set (.int .i64 1) (HL.out.2.2.other (B' := w.heap.size + 1) (by omega) (.slice none 0 0))).alloc (.cells #[.pointer none, .int .i64 0, .int .i64 0] 80)
  have k1 := b1.cell
  have k2 := b2.cell
  refine bodyPost_ret (v := .tuple #[.slice none 0 0, .int .i64 1]) (by simp [results, Try.results13, go_sem, k1, k2]) rfl ⟨rfl, ?_⟩
  exact (((HE.out.1.trans (HL.out.1.mono HE.out.1.size)).setCell (p := ⟨w.heap.size + 1, 0, none⟩) (by show w.heap.size ≤ w.heap.size + 1; omega) _).setCell (p := ⟨w.heap.size + 1 + 1, 0, none⟩) (by show w.heap.size ≤ w.heap.size + 1 + 1; omega) _).alloc (by rw [size_set, size_set]; omega) _
theorem readNil_any (first count epoch : Int) (w : World) :
    Calls Try.prog 13 #[.pointer none, .int .i64 first, .int .i64 count, .int .i64 epoch] w fun e w' => e = .returned (.tuple #[.slice none 0 0, .int .i64 1]) ∧ Below w.heap.size w w' :=
  read_bad _ first count epoch w fun W _ => placeNil_any first count W
theorem read_off [Spare] (first count epoch : Int) (w : World) (base : Nat) (M : DM) (S : DS) (h : Dsk w base M S) (f0 : -9223372036854775808 ≤ first) (f1 : first ≤ 9223372036854775807) (c1 : count ≤ 9223372036854775807) (hno : ¬ plB S.N first count) :
    Calls Try.prog 13 #[.pointer (some ⟨M.p, 0, none⟩), .int .i64 first, .int .i64 count, .int .i64 epoch] w fun e w' => e = .returned (.tuple #[.slice none 0 0, .int .i64 1]) ∧ Below w.heap.size w w' :=
  read_bad _ first count epoch w fun W l => (placeOf_any first count W base M S (h.below l) f0 f1 c1).mono fun e w' k => by
    obtain ⟨⟨k0, _⟩ | ⟨_, k1⟩, k2⟩ := k
    · exact absurd k0 hno
    · exact ⟨k1, k2⟩
set_option maxRecDepth 100000 in
set_option maxHeartbeats 4000000 in
theorem latest_bad (dv : Value) (first count : Int) (w : World) (hP : ∀ W, Below w.heap.size w W → Calls Try.prog 34 #[dv, .int .i64 first, .int .i64 count] W fun e w' => e = .returned (.tuple #[.agg #[.pointer none, .int .i64 0, .int .i64 0], .int .i64 1]) ∧ Below W.heap.size W w') :
    Calls Try.prog 22 #[dv, .int .i64 first, .int .i64 count] w fun e w' => e = .returned (.tuple #[.int .i64 0, .int .i64 1]) ∧ Below w.heap.size w w' := by
  obtain ⟨B0, hB0⟩ : ∃ B0 : World, B0 = (w.alloc (.cells #[.int .i64 0] 3)).alloc (.cells #[.int .i64 0] 29) := ⟨_, rfl⟩
  have hb0 : Below w.heap.size w B0 := by
    subst hB0
    exact ((Below.refl _ _).alloc (Nat.le_refl _) _).alloc (by simp) _
  have hs0 : B0.heap.size = w.heap.size + 2 := by subst hB0; simp
  have e1 : Boxed B0 w.heap.size 3 (.int .i64 0) := by subst hB0; exact (Boxed.new _ _ _).alloc _
  have e2 : Boxed B0 (w.heap.size + 1) 29 (.int .i64 0) := by subst hB0; exact boxed_at (by simp) _ _
  have KP := Lib.hid (hP B0 hb0)
  have HB := Lib.hid hB0
  have HE := Lib.hid (And.intro hb0 (And.intro e1 e2))
  rw [HB.out] at KP
  clear hB0 hb0 e1 e2 hP
  go_enter Try.func22, Try.ntmps22
  go_upto_region 1 with (fail)
  rw [← HB.out] at KP ⊢
  go_wp2_with (go_at_call 34; refine KP.out.mono ?_; rintro _ w1 ⟨rfl, l1⟩; have hs1 := l1.size; have b1 : Boxed w1 w.heap.size 3 (.int .i64 0) := (l1.block _ (by omega)).trans HE.out.2.1; have b2 : Boxed w1 (w.heap.size + 1) 29 (.int .i64 0) := (l1.block _ (by omega)).trans HE.out.2.2; have c1 := b1.cell; have c2 := b2.cell; have f1 := b1.frozen; have f2 := b2.frozen; have hl1 : w.heap.size < w1.heap.size := (by omega); have hl2 : w.heap.size + 1 < w1.heap.size := (by omega); have HL := Lib.hid (And.intro l1 (And.intro b1 b2)); clear l1 b1 b2)
  have b1 := ((Boxed.set (.int .i64 0) HL.out.2.1).other (B' := w.heap.size + 1) (by omega) (.int .i64 1)).alloc (.cells #[.pointer none, .int .i64 0, .int .i64 0] 80)
  have b2 := (Boxed.set (.int .i64 1) (HL.out.2.2.other (B' := w.heap.size) (by omega) (.int .i64 0))).alloc (.cells #[.pointer none, .int .i64 0, .int .i64 0] 80)
  have k1 := b1.cell
  have k2 := b2.cell
  refine bodyPost_ret (v := .tuple #[.int .i64 0, .int .i64 1]) (by simp [results, Try.results22, go_sem, k1, k2]) rfl ⟨rfl, ?_⟩
  exact (((HE.out.1.trans (HL.out.1.mono HE.out.1.size)).setCell (p := ⟨w.heap.size, 0, none⟩) (Nat.le_refl _) _).setCell (p := ⟨w.heap.size + 1, 0, none⟩) (by show w.heap.size ≤ w.heap.size + 1; omega) _).alloc (by rw [size_set, size_set]; omega) _
theorem latestNil_any (first count : Int) (w : World) :
    Calls Try.prog 22 #[.pointer none, .int .i64 first, .int .i64 count] w fun e w' => e = .returned (.tuple #[.int .i64 0, .int .i64 1]) ∧ Below w.heap.size w w' :=
  latest_bad _ first count w fun W _ => placeNil_any first count W
set_option maxRecDepth 100000 in
set_option maxHeartbeats 4000000 in
theorem clean_bad (dv : Value) (hdv : dv = .pointer none ∨ ∃ p, dv = .pointer (some ⟨p, 0, none⟩)) (first count : Int) (w : World) (hP : ∀ W, Below w.heap.size w W → Calls Try.prog 34 #[dv, .int .i64 first, .int .i64 count] W fun e w' => e = .returned (.tuple #[.agg #[.pointer none, .int .i64 0, .int .i64 0], .int .i64 1]) ∧ Below W.heap.size W w') :
    Calls Try.prog 27 #[dv, .int .i64 first, .int .i64 count] w fun e w' => e = .returned (.int .i64 1) ∧ Below w.heap.size w w' := by
  obtain ⟨B0, hB0⟩ : ∃ B0 : World, B0 = (w.alloc (.cells #[dv] 26)).alloc (.cells #[.int .i64 0] 29) := ⟨_, rfl⟩
  have hb0 : Below w.heap.size w B0 := by
    subst hB0
    exact ((Below.refl _ _).alloc (Nat.le_refl _) _).alloc (by simp) _
  have hs0 : B0.heap.size = w.heap.size + 2 := by subst hB0; simp
  have e1 : Boxed B0 w.heap.size 26 dv := by subst hB0; exact (Boxed.new _ _ _).alloc _
  have e2 : Boxed B0 (w.heap.size + 1) 29 (.int .i64 0) := by subst hB0; exact boxed_at (by simp) _ _
  have KP := Lib.hid (hP B0 hb0)
  have HB := Lib.hid hB0
  have HE := Lib.hid (And.intro hb0 (And.intro e1 e2))
  have e1c := e1.cell
  have HC := Lib.hid e1c
  rw [HB.out] at KP HC
  clear hB0 hb0 e1 e2 hP e1c
  rcases hdv with rfl | ⟨p, rfl⟩
  all_goals
    go_enter Try.func27, Try.ntmps27
    go_upto_region 1 with (fail)
    rw [← HB.out] at KP HC ⊢
    have e1c := HC.out
    go_wp2_with (go_at_call 34; refine KP.out.mono ?_; rintro _ w1 ⟨rfl, l1⟩; have hs1 := l1.size; have b2 : Boxed w1 (w.heap.size + 1) 29 (.int .i64 0) := (l1.block _ (by omega)).trans HE.out.2.2; have c2 := b2.cell; have f2 := b2.frozen; have hl2 : w.heap.size + 1 < w1.heap.size := (by omega); have HL := Lib.hid (And.intro l1 b2); clear l1 b2)
    have b2 := (Boxed.set (.int .i64 1) HL.out.2).alloc (.cells #[.pointer none, .int .i64 0, .int .i64 0] 80)
    have k2 := b2.cell
    refine bodyPost_ret (v := .int .i64 1) (by simp [results, Try.results27, go_sem, k2]) rfl ⟨rfl, ?_⟩
    exact ((HE.out.1.trans (HL.out.1.mono HE.out.1.size)).setCell (p := ⟨w.heap.size + 1, 0, none⟩) (by show w.heap.size ≤ w.heap.size + 1; omega) _).alloc (by rw [size_set]; omega) _
theorem cleanNil_any (first count : Int) (w : World) :
    Calls Try.prog 27 #[.pointer none, .int .i64 first, .int .i64 count] w fun e w' => e = .returned (.int .i64 1) ∧ Below w.heap.size w w' :=
  clean_bad _ (.inl rfl) first count w fun W _ => placeNil_any first count W
end Go.Proofs.Ytmeijienfdefjaa
