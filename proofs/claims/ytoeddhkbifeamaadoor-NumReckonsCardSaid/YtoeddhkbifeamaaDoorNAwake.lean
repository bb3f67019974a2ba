/- What the chapter's examples say. -/
import Derived.Test.YtoeddhkbifeamaaDoorNParse
namespace Go.Proofs.YtoeddhkbifeamaaDoor
open Go.RowKit
set_option linter.unusedVariables false

section
variable (w : World)
theorem parse_a : Calls Tryd.prog 9 #[.string ⟨#[49, 46, 53, 101, 49]⟩] w fun e w' => e = .returned (.tuple #[.int .i64 150000000, .int .i64 0]) ∧ Below w.heap.size w w' := by
  have := parse_any ⟨#[49, 46, 53, 101, 49]⟩ w (by decide)
  rwa [show parseV ⟨#[49, 46, 53, 101, 49]⟩ = 150000000 by decide +kernel, show parseE ⟨#[49, 46, 53, 101, 49]⟩ = 0 by decide +kernel] at this
theorem parse_b : Calls Tryd.prog 9 #[.string ⟨#[49, 101, 45, 56]⟩] w fun e w' => e = .returned (.tuple #[.int .i64 0, .int .i64 12]) ∧ Below w.heap.size w w' := by
  have := parse_any ⟨#[49, 101, 45, 56]⟩ w (by decide)
  rwa [show parseV ⟨#[49, 101, 45, 56]⟩ = 0 by decide +kernel, show parseE ⟨#[49, 101, 45, 56]⟩ = 12 by decide +kernel] at this
theorem parse_c : Calls Tryd.prog 9 #[.string ⟨#[49, 48, 101, 45, 56]⟩] w fun e w' => e = .returned (.tuple #[.int .i64 1, .int .i64 0]) ∧ Below w.heap.size w w' := by
  have := parse_any ⟨#[49, 48, 101, 45, 56]⟩ w (by decide)
  rwa [show parseV ⟨#[49, 48, 101, 45, 56]⟩ = 1 by decide +kernel, show parseE ⟨#[49, 48, 101, 45, 56]⟩ = 0 by decide +kernel] at this
theorem print_a (h : TabW w) : Calls Tryd.prog 14 #[.int .i64 (-12500000)] w fun e w' => e = .returned (.tuple #[.string ⟨#[45, 49, 46, 50, 53]⟩, .int .i64 0]) ∧ Below w.heap.size w w' := by
  have := print_any (-12500000) w h
  rwa [show printS (-12500000) = [45, 49, 46, 50, 53] by decide +kernel, show printE (-12500000) = 0 by decide +kernel] at this
theorem scan_a : Calls Tryd.prog 11 #[.string ⟨#[49, 46, 101]⟩] w fun e w' => e = .returned (.int .i64 1) ∧ Below w.heap.size w w' := by
  have := scan_any ⟨#[49, 46, 101]⟩ w (by decide)
  rwa [show (cutP ⟨#[49, 46, 101]⟩).length = 1 by decide +kernel] at this
end
set_option maxHeartbeats 2000000 in
set_option maxRecDepth 100000 in
theorem awake_any (w : World) (h : TabW w) : Calls Tryd.prog 13 #[] w fun e w' => e = .returned (.bool true) ∧ Below w.heap.size w w' := by
  have HT := Lib.hid h
  clear h
  go_enter Tryd.func13, Tryd.ntmps13
  go_wp2_with fail
  refine (parse_a _).mono ?_
  rintro e w1 ⟨rfl, l1⟩
  go_wp2_with fail
  refine (parse_b _).mono ?_
  rintro e w2 ⟨rfl, l2⟩
  go_wp2_with fail
  refine (parse_c _).mono ?_
  rintro e w3 ⟨rfl, l3⟩
  have L3 := Lib.hid ((l1.trans (l2.mono l1.size)).trans (l3.mono (Nat.le_trans l1.size l2.size)))
  clear l1 l2 l3
  go_wp2_with fail
  refine (print_a _ (HT.out.below L3.out)).mono ?_
  rintro e w4 ⟨rfl, l4⟩
  have L4 := Lib.hid (L3.out.trans (l4.mono L3.out.size))
  clear l4
  go_wp2_with fail
  refine (scan_a _).mono ?_
  rintro e w5 ⟨rfl, l5⟩
  have L5 := Lib.hid (L4.out.trans (l5.mono L4.out.size))
  clear l5
  go_wp2
  go_ret
  exact ⟨rfl, L5.out⟩
end Go.Proofs.YtoeddhkbifeamaaDoor
