/- what the chapter's examples say of geom: the walk. -/
import Derived.Test.YtehmdokcdnlcdaaGMeet
import Derived.Test.YtehmdokcdnlcdaaGIn2
namespace Go.Proofs.Ytehmdokcdnlcdaa
open Go.RowKit
set_option linter.unusedVariables false


theorem at_any (x y : Int) (w : World) : Calls Try.prog 38 #[.int .i64 x, .int .i64 y] w fun e w' => e = .returned (.agg #[.int .i64 x, .int .i64 y]) ∧ Below w.heap.size w w' := by
  go_enter Try.func38, Try.ntmps38
  go_wp2
  exact bodyPost_ret (v := .agg #[.int .i64 x, .int .i64 y]) (by simp [results, Try.results38, go_sem]) rfl ⟨rfl, (Below.refl _ _).alloc (Nat.le_refl _) _⟩
abbrev Fsq : Nat → Pt := F4 ⟨0, 0⟩ ⟨10, 0⟩ ⟨10, 10⟩ ⟨0, 10⟩
abbrev rowS : Obj := .cells #[.int .i64 0, .int .i64 0, .int .i64 10, .int .i64 0, .int .i64 10, .int .i64 10, .int .i64 0, .int .i64 10] 23
set_option maxRecDepth 100000 in
set_option maxHeartbeats 8000000 in
theorem gAwake_any (w : World) : Calls Try.prog 19 #[] w fun e w' => e = .returned (.bool true) ∧ Below w.heap.size w w' := by
  have KP := Lib.hid (fun (W : World) => (show Pts (W.alloc rowS) (some ⟨W.heap.size, 0, none⟩) 4 Fsq from pts4 W ⟨0, 0⟩ ⟨10, 0⟩ ⟨10, 10⟩ ⟨0, 10⟩))
  have k1 := fun W => turn_any ⟨0, 0⟩ ⟨1, 0⟩ ⟨0, 1⟩ W
  rw [show turnI ⟨0, 0⟩ ⟨1, 0⟩ ⟨0, 1⟩ = 1 by decide +kernel] at k1
  have k2 := fun W => meet_any ⟨0, 0⟩ ⟨2, 2⟩ ⟨0, 2⟩ ⟨2, 0⟩ W
  rw [show meetB ⟨0, 0⟩ ⟨2, 2⟩ ⟨0, 2⟩ ⟨2, 0⟩ = true by decide +kernel] at k2
  have k3 := fun W => cross_any ⟨0, 0⟩ ⟨2, 2⟩ ⟨0, 2⟩ ⟨2, 0⟩ W
  rw [show crossB ⟨0, 0⟩ ⟨2, 2⟩ ⟨0, 2⟩ ⟨2, 0⟩ = true by decide +kernel] at k3
  have k4 := fun W => cross_any ⟨0, 0⟩ ⟨2, 0⟩ ⟨2, 0⟩ ⟨3, 5⟩ W
  rw [show crossB ⟨0, 0⟩ ⟨2, 0⟩ ⟨2, 0⟩ ⟨3, 5⟩ = false by decide +kernel] at k4
  have k5 := fun (g : Nat) (W : World) (h : Pts W (some ⟨g, 0, none⟩) 4 Fsq) => inside_any (some ⟨g, 0, none⟩) 4 4 Fsq ⟨5, 5⟩ W h (by omega)
  rw [show insideI Fsq 4 ⟨5, 5⟩ = 1 by decide +kernel] at k5
  have k6 := fun (g : Nat) (W : World) (h : Pts W (some ⟨g, 0, none⟩) 4 Fsq) => inside_any (some ⟨g, 0, none⟩) 4 4 Fsq ⟨0, 5⟩ W h (by omega)
  rw [show insideI Fsq 4 ⟨0, 5⟩ = 0 by decide +kernel] at k6
  have k7 := fun (g : Nat) (W : World) (h : Pts W (some ⟨g, 0, none⟩) 4 Fsq) => inside_any (some ⟨g, 0, none⟩) 4 4 Fsq ⟨11, 5⟩ W h (by omega)
  rw [show insideI Fsq 4 ⟨11, 5⟩ = -1 by decide +kernel] at k7
  dsimp only at k1 k2 k3 k4 k5 k6 k7
  have K1 := Lib.hid k1
  have K2 := Lib.hid k2
  have K3 := Lib.hid k3
  have K4 := Lib.hid k4
  have K5 := Lib.hid k5
  have K6 := Lib.hid k6
  have K7 := Lib.hid k7
  have B0 := Lib.hid (Below.refl w.heap.size w)
  clear k1 k2 k3 k4 k5 k6 k7
  go_enter Try.func19, Try.ntmps19
  go_wp2_with fail
  (with_reducible refine (at_any _ _ _).mono ?_); rintro _ w1 ⟨rfl, l⟩
  have B1 := Lib.hid (below2' B0.out l)
  clear l
  go_wp2_with fail
  (with_reducible refine (at_any _ _ _).mono ?_); rintro _ w2 ⟨rfl, l⟩
  have B2 := Lib.hid (below2' B1.out l)
  clear l
  go_wp2_with fail
  (with_reducible refine (at_any _ _ _).mono ?_); rintro _ w3 ⟨rfl, l⟩
  have B3 := Lib.hid (below2' B2.out l)
  clear l
  go_wp2_with fail
  (with_reducible refine (at_any _ _ _).mono ?_); rintro _ w4 ⟨rfl, l⟩
  have B4 := Lib.hid (below2' B3.out l)
  clear l
  have RR := Lib.hid (KP.out w4)
  have BB := Lib.hid (B4.out.alloc B4.out.size rowS)
  go_wp2_with fail
  (with_reducible refine (at_any _ _ _).mono ?_); rintro _ w5 ⟨rfl, l⟩
  have B5 := Lib.hid (below2' BB.out l)
  have R5 := Lib.hid (Pts.keep RR.out l)
  clear l
  go_wp2_with fail
  (with_reducible refine (at_any _ _ _).mono ?_); rintro _ w6 ⟨rfl, l⟩
  have B6 := Lib.hid (below2' B5.out l)
  have R6 := Lib.hid (Pts.keep R5.out l)
  clear l
  go_wp2_with fail
  (with_reducible refine (at_any _ _ _).mono ?_); rintro _ w7 ⟨rfl, l⟩
  have B7 := Lib.hid (below2' B6.out l)
  have R7 := Lib.hid (Pts.keep R6.out l)
  clear l
  go_wp2_with fail
  (with_reducible refine (K1.out _).mono ?_); rintro _ w8 ⟨rfl, l⟩
  have B8 := Lib.hid (below2' B7.out l)
  have R8 := Lib.hid (Pts.keep R7.out l)
  clear l
  go_wp2_with fail
  (with_reducible refine (at_any _ _ _).mono ?_); rintro _ w9 ⟨rfl, l⟩
  have B9 := Lib.hid (below2' B8.out l)
  have R9 := Lib.hid (Pts.keep R8.out l)
  clear l
  go_wp2_with fail
  (with_reducible refine (at_any _ _ _).mono ?_); rintro _ w10 ⟨rfl, l⟩
  have B10 := Lib.hid (below2' B9.out l)
  have R10 := Lib.hid (Pts.keep R9.out l)
  clear l
  go_wp2_with fail
  (with_reducible refine (at_any _ _ _).mono ?_); rintro _ w11 ⟨rfl, l⟩
  have B11 := Lib.hid (below2' B10.out l)
  have R11 := Lib.hid (Pts.keep R10.out l)
  clear l
  go_wp2_with fail
  (with_reducible refine (at_any _ _ _).mono ?_); rintro _ w12 ⟨rfl, l⟩
  have B12 := Lib.hid (below2' B11.out l)
  have R12 := Lib.hid (Pts.keep R11.out l)
  clear l
  go_wp2_with fail
  (with_reducible refine (K2.out _).mono ?_); rintro _ w13 ⟨rfl, l⟩
  have B13 := Lib.hid (below2' B12.out l)
  have R13 := Lib.hid (Pts.keep R12.out l)
  clear l
  go_wp2_with fail
  (with_reducible refine (at_any _ _ _).mono ?_); rintro _ w14 ⟨rfl, l⟩
  have B14 := Lib.hid (below2' B13.out l)
  have R14 := Lib.hid (Pts.keep R13.out l)
  clear l
  go_wp2_with fail
  (with_reducible refine (at_any _ _ _).mono ?_); rintro _ w15 ⟨rfl, l⟩
  have B15 := Lib.hid (below2' B14.out l)
  have R15 := Lib.hid (Pts.keep R14.out l)
  clear l
  go_wp2_with fail
  (with_reducible refine (at_any _ _ _).mono ?_); rintro _ w16 ⟨rfl, l⟩
  have B16 := Lib.hid (below2' B15.out l)
  have R16 := Lib.hid (Pts.keep R15.out l)
  clear l
  go_wp2_with fail
  (with_reducible refine (at_any _ _ _).mono ?_); rintro _ w17 ⟨rfl, l⟩
  have B17 := Lib.hid (below2' B16.out l)
  have R17 := Lib.hid (Pts.keep R16.out l)
  clear l
  go_wp2_with fail
  (with_reducible refine (K3.out _).mono ?_); rintro _ w18 ⟨rfl, l⟩
  have B18 := Lib.hid (below2' B17.out l)
  have R18 := Lib.hid (Pts.keep R17.out l)
  clear l
  go_wp2_with fail
  (with_reducible refine (at_any _ _ _).mono ?_); rintro _ w19 ⟨rfl, l⟩
  have B19 := Lib.hid (below2' B18.out l)
  have R19 := Lib.hid (Pts.keep R18.out l)
  clear l
  go_wp2_with fail
  (with_reducible refine (at_any _ _ _).mono ?_); rintro _ w20 ⟨rfl, l⟩
  have B20 := Lib.hid (below2' B19.out l)
  have R20 := Lib.hid (Pts.keep R19.out l)
  clear l
  go_wp2_with fail
  (with_reducible refine (at_any _ _ _).mono ?_); rintro _ w21 ⟨rfl, l⟩
  have B21 := Lib.hid (below2' B20.out l)
  have R21 := Lib.hid (Pts.keep R20.out l)
  clear l
  go_wp2_with fail
  (with_reducible refine (at_any _ _ _).mono ?_); rintro _ w22 ⟨rfl, l⟩
  have B22 := Lib.hid (below2' B21.out l)
  have R22 := Lib.hid (Pts.keep R21.out l)
  clear l
  go_wp2_with fail
  (with_reducible refine (K4.out _).mono ?_); rintro _ w23 ⟨rfl, l⟩
  have B23 := Lib.hid (below2' B22.out l)
  have R23 := Lib.hid (Pts.keep R22.out l)
  clear l
  go_wp2_with fail
  (with_reducible refine (at_any _ _ _).mono ?_); rintro _ w24 ⟨rfl, l⟩
  have B24 := Lib.hid (below2' B23.out l)
  have R24 := Lib.hid (Pts.keep R23.out l)
  clear l
  go_wp2_with fail
  (with_reducible refine (K5.out _ _ R24.out).mono ?_); rintro _ w25 ⟨rfl, l⟩
  have B25 := Lib.hid (below2' B24.out l)
  have R25 := Lib.hid (Pts.keep R24.out l)
  clear l
  go_wp2_with fail
  (with_reducible refine (at_any _ _ _).mono ?_); rintro _ w26 ⟨rfl, l⟩
  have B26 := Lib.hid (below2' B25.out l)
  have R26 := Lib.hid (Pts.keep R25.out l)
  clear l
  go_wp2_with fail
  (with_reducible refine (K6.out _ _ R26.out).mono ?_); rintro _ w27 ⟨rfl, l⟩
  have B27 := Lib.hid (below2' B26.out l)
  have R27 := Lib.hid (Pts.keep R26.out l)
  clear l
  go_wp2_with fail
  (with_reducible refine (at_any _ _ _).mono ?_); rintro _ w28 ⟨rfl, l⟩
  have B28 := Lib.hid (below2' B27.out l)
  have R28 := Lib.hid (Pts.keep R27.out l)
  clear l
  go_wp2_with fail
  (with_reducible refine (K7.out _ _ R28.out).mono ?_); rintro _ w29 ⟨rfl, l⟩
  have B29 := Lib.hid (below2' B28.out l)
  have R29 := Lib.hid (Pts.keep R28.out l)
  clear l
  go_wp2
  go_ret
  exact ⟨rfl, B29.out⟩
end Go.Proofs.Ytehmdokcdnlcdaa
