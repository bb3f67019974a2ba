/- The document's Compare, way by way. -/
import Derived.Test.YtpmhefdalhohdaaDoorORefCmp
import Derived.Deep.QuietTactic
import Derived.BigQuiet
namespace Go.Proofs.YtpmhefdalhohdaaDoor
open Go.RowKit
set_option linter.unusedVariables false

set_option maxHeartbeats 4000000 in
set_option maxRecDepth 100000 in
theorem refCmp_ne (t u : VT) (x0 x1 x2 x3 x4 x5 y0 y1 y2 y3 y4 y5 : Value) (w : World) (ia : InV w t #[x0, x1, x2, x3, x4, x5]) (ib : InV w u #[y0, y1, y2, y3, y4, y5]) (ka : 0 ≤ t.k ∧ t.k ≤ 5) (kb : 0 ≤ u.k ∧ u.k ≤ 5) (p r : Int) (r1 : rankV t = p) (r2 : rankV u = r) (hr : p ≠ r) :
    Calls Tryd.prog 16 #[.agg #[x0, x1, x2, x3, x4, x5], .agg #[y0, y1, y2, y3, y4, y5]] w fun e w' => e = .returned (.int .i64 (cmpI p r)) ∧ Below w.heap.size w w' := by
  have n1 : (p != r) = true := by simpa using hr
  obtain ⟨W0, hW⟩ : ∃ W0, W0 = (w.alloc (.cells #[x0, x1, x2, x3, x4, x5] 25)).alloc (.cells #[y0, y1, y2, y3, y4, y5] 25) := ⟨_, rfl⟩
  have hz : W0.heap.size = w.heap.size + 2 := by rw [hW]; simp
  have PW := Lib.hid (show ∀ W : World, Below W0.heap.size W0 W → Below w.heap.size w W from fun W hbel => by
    have l : Below w.heap.size w W0 := by rw [hW]; exact ((Below.refl _ _).alloc (Nat.le_refl _) _).alloc (by simp) _
    exact l.trans (hbel.mono (by omega)))
  have KS := Lib.hid (show ∀ W : World, Below W0.heap.size W0 W → W.cell? ⟨w.heap.size, 0, none⟩ = some (x0) ∧ W.cell? ⟨w.heap.size, 1, none⟩ = some (x1) ∧ W.cell? ⟨w.heap.size, 2, none⟩ = some (x2) ∧ W.cell? ⟨w.heap.size, 3, none⟩ = some (x3) ∧ W.cell? ⟨w.heap.size, 4, none⟩ = some (x4) ∧ W.cell? ⟨w.heap.size, 5, none⟩ = some (x5) ∧ W.cell? ⟨w.heap.size + 1, 0, none⟩ = some (y0) ∧ W.cell? ⟨w.heap.size + 1, 1, none⟩ = some (y1) ∧ W.cell? ⟨w.heap.size + 1, 2, none⟩ = some (y2) ∧ W.cell? ⟨w.heap.size + 1, 3, none⟩ = some (y3) ∧ W.cell? ⟨w.heap.size + 1, 4, none⟩ = some (y4) ∧ W.cell? ⟨w.heap.size + 1, 5, none⟩ = some (y5) from fun W hbel => by
    rw [hW] at hbel
    have Ba := boxed (w := w) (W1 := (w.alloc (.cells #[x0, x1, x2, x3, x4, x5] 25))) rfl (wr := W) (((Below.refl (w.alloc (.cells #[x0, x1, x2, x3, x4, x5] 25)).heap.size (w.alloc (.cells #[x0, x1, x2, x3, x4, x5] 25))).alloc (by simp only [World.size_alloc]; omega) (.cells #[y0, y1, y2, y3, y4, y5] 25)).trans (hbel.mono ((Below.refl (w.alloc (.cells #[x0, x1, x2, x3, x4, x5] 25)).heap.size (w.alloc (.cells #[x0, x1, x2, x3, x4, x5] 25))).alloc (by simp only [World.size_alloc]; omega) (.cells #[y0, y1, y2, y3, y4, y5] 25)).size))
    have Bb := boxed (w := (w.alloc (.cells #[x0, x1, x2, x3, x4, x5] 25))) (W1 := ((w.alloc (.cells #[x0, x1, x2, x3, x4, x5] 25)).alloc (.cells #[y0, y1, y2, y3, y4, y5] 25))) rfl (wr := W) hbel
    simp only [World.size_alloc] at Bb
    exact ⟨Ba.1, Ba.2.1, Ba.2.2.1, Ba.2.2.2.1, Ba.2.2.2.2.1, Ba.2.2.2.2.2.1, Bb.1, Bb.2.1, Bb.2.2.1, Bb.2.2.2.1, Bb.2.2.2.2.1, Bb.2.2.2.2.2.1⟩)
  have LD := Lib.hid (show ∀ W : World, Below W0.heap.size W0 W → W.rangeAt w.heap.size 0 [x0, x1, x2, x3, x4, x5] ∧ W.rangeAt (w.heap.size + 1) 0 [y0, y1, y2, y3, y4, y5] from fun W hbel => by
    obtain ⟨a0, a1, a2, a3, a4, a5, b0, b1, b2, b3, b4, b5⟩ := KS.out W hbel
    exact ⟨range6 a0 a1 a2 a3 a4 a5, range6 b0 b1 b2 b3 b4 b5⟩)
  have RA := Lib.hid (show ∀ W : World, Below W0.heap.size W0 W → Calls Tryd.prog 29 #[.agg #[x0, x1, x2, x3, x4, x5]] W fun e w' => e = .returned (.int .i64 p) ∧ Below W.heap.size W w' from fun W hbel => by rw [← r1]; exact refRank_any t _ W (ia.keep (KeepC.below (PW.out W hbel))) ka)
  have RB := Lib.hid (show ∀ W : World, Below W0.heap.size W0 W → Calls Tryd.prog 29 #[.agg #[y0, y1, y2, y3, y4, y5]] W fun e w' => e = .returned (.int .i64 r) ∧ Below W.heap.size W w' from fun W hbel => by rw [← r2]; exact refRank_any u _ W (ib.keep (KeepC.below (PW.out W hbel))) kb)
  have HW := Lib.hid hW
  clear hW hz ia ib r1 r2 hr ka kb
  go_enter Tryd.func16, Tryd.ntmps16
  go_wp2_with fail
  rw [← HW.out]
  have PD := Lib.hid (below_drew (Below.refl W0.heap.size W0))
  refine wp_region_held_drew (S := fun W => Below W0.heap.size W0 W) (by kernel_rfl) (PD.out) (fun hHeld => ?_)
  refine wpAnyH_take (i := 0) (oi := { dst := some 7, op := Op.load 25 (Operand.tmp 2), type := 25, pos := "ref.go:49", after := #[], guard := none }) (v := .agg #[x0, x1, x2, x3, x4, x5]) rfl (by kernel_rfl) (by kernel_rfl) (by kernel_rfl) (fun _ _ _ h => h) (yieldsIf_load_mid (by kernel_rfl) 25 (.tmp 2) rfl (w.heap.size) (0) (by kernel_rfl) [x0, x1, x2, x3, x4, x5] _ (fun W hW => (LD.out W hW).1) Tryd.underlying25 rfl (by kernel_rfl)) (by with_reducible assumption) ?_
  simp only [Act.put]
  refine wpAnyH_take (i := 2) (oi := { dst := some 9, op := Op.load 25 (Operand.tmp 3), type := 25, pos := "ref.go:49", after := #[], guard := none }) (v := .agg #[y0, y1, y2, y3, y4, y5]) rfl (by kernel_rfl) (by kernel_rfl) (by kernel_rfl) (fun _ _ _ h => h) (yieldsIf_load_mid (by kernel_rfl) 25 (.tmp 3) rfl (w.heap.size + 1) (0) (by kernel_rfl) [y0, y1, y2, y3, y4, y5] _ (fun W hW => (LD.out W hW).2) Tryd.underlying25 rfl (by kernel_rfl)) (by with_reducible assumption) ?_
  simp only [Act.put]
  refine wpAnyH_ready (rs := [1]) (by kernel_rfl) (by simp) ?_
  refine AllReadyH.cons (o := { dst := some 8, op := Op.call { callee := Callee.value (Operand.func 29), args := #[Operand.tmp 7], argTypes := #[25] }, type := 3, pos := "ref.go:49", after := #[{ on := 0, ground := Ground.data }], guard := none }) rfl (fun K hK => ?_) AllReadyH.nil
  go_simp
  go_wp2_with (go_at_call 29; (with_reducible refine (RA.out _ PD.out).mono ?_); rintro e w1 ⟨rfl, l⟩; have hSw1 := PD.out.trans (l.mono PD.out.size); have P1 := Lib.hid hSw1; clear l)
  refine hK.out _ _ (by with_reducible assumption) (fun hHeld => ?_)
  clear hK K
  refine wpAnyH_ready (rs := [3]) (by kernel_rfl) (by simp) ?_
  refine AllReadyH.cons (o := { dst := some 10, op := Op.call { callee := Callee.value (Operand.func 29), args := #[Operand.tmp 9], argTypes := #[25] }, type := 3, pos := "ref.go:49", after := #[{ on := 2, ground := Ground.data }, { on := 1, ground := Ground.chain }], guard := none }) rfl (fun K hK => ?_) AllReadyH.nil
  go_simp
  go_wp2_with (go_at_call 29; (with_reducible refine (RB.out _ P1.out).mono ?_); rintro e w2 ⟨rfl, l⟩; have hSw2 := P1.out.trans (l.mono P1.out.size); have P2 := Lib.hid hSw2; clear l)
  refine hK.out _ _ (by with_reducible assumption) (fun hHeld => ?_)
  clear hK K
  refine wpAnyH_take (i := 4) (oi := { dst := some 11, op := Op.binOp BinOp.neq 3 (Operand.tmp 8) (Operand.tmp 10) 3, type := 4, pos := "ref.go:49", after := #[{ on := 1, ground := Ground.data }, { on := 3, ground := Ground.data }], guard := none }) (v := ?_) rfl (by kernel_rfl) (by kernel_rfl) (by kernel_rfl) (fun _ _ _ h => h) (Or.inl ⟨by kernel_rfl, ?_⟩) (by with_reducible assumption) ?_
  rotate_left 1
  · (intro w0 hSw; (try dsimp only at hSw); go_simp; (try with_reducible rfl))
  simp only [Act.put]
  refine wpAnyH_done (by kernel_rfl) ?_ _
  clear hHeld
  go_wp2_with fail
  have QD := Lib.hid (below_drew P2.out)
  clear hHeld hSw1 hSw2
  refine wp_region_held_drew (S := fun W => Below W0.heap.size W0 W) (by kernel_rfl) (QD.out) (fun hHeld => ?_)
  refine wpAnyH_take (i := 0) (oi := { dst := some 12, op := Op.load 25 (Operand.tmp 2), type := 25, pos := "ref.go:50", after := #[], guard := none }) (v := .agg #[x0, x1, x2, x3, x4, x5]) rfl (by kernel_rfl) (by kernel_rfl) (by kernel_rfl) (fun _ _ _ h => h) (yieldsIf_load_mid (by kernel_rfl) 25 (.tmp 2) rfl (w.heap.size) (0) (by kernel_rfl) [x0, x1, x2, x3, x4, x5] _ (fun W hW => (LD.out W hW).1) Tryd.underlying25 rfl (by kernel_rfl)) (by with_reducible assumption) ?_
  simp only [Act.put]
  refine wpAnyH_take (i := 2) (oi := { dst := some 14, op := Op.load 25 (Operand.tmp 3), type := 25, pos := "ref.go:50", after := #[], guard := none }) (v := .agg #[y0, y1, y2, y3, y4, y5]) rfl (by kernel_rfl) (by kernel_rfl) (by kernel_rfl) (fun _ _ _ h => h) (yieldsIf_load_mid (by kernel_rfl) 25 (.tmp 3) rfl (w.heap.size + 1) (0) (by kernel_rfl) [y0, y1, y2, y3, y4, y5] _ (fun W hW => (LD.out W hW).2) Tryd.underlying25 rfl (by kernel_rfl)) (by with_reducible assumption) ?_
  simp only [Act.put]
  refine wpAnyH_ready (rs := [1]) (by kernel_rfl) (by simp) ?_
  refine AllReadyH.cons (o := { dst := some 13, op := Op.call { callee := Callee.value (Operand.func 29), args := #[Operand.tmp 12], argTypes := #[25] }, type := 3, pos := "ref.go:50", after := #[{ on := 0, ground := Ground.data }], guard := none }) rfl (fun K hK => ?_) AllReadyH.nil
  go_simp
  go_wp2_with (go_at_call 29; (with_reducible refine (RA.out _ QD.out).mono ?_); rintro e w3 ⟨rfl, l⟩; have hSw3 := QD.out.trans (l.mono QD.out.size); have Q1 := Lib.hid hSw3; clear l)
  refine hK.out _ _ (by with_reducible assumption) (fun hHeld => ?_)
  clear hK K
  refine wpAnyH_ready (rs := [3]) (by kernel_rfl) (by simp) ?_
  refine AllReadyH.cons (o := { dst := some 15, op := Op.call { callee := Callee.value (Operand.func 29), args := #[Operand.tmp 14], argTypes := #[25] }, type := 3, pos := "ref.go:50", after := #[{ on := 2, ground := Ground.data }, { on := 1, ground := Ground.chain }], guard := none }) rfl (fun K hK => ?_) AllReadyH.nil
  go_simp
  go_wp2_with (go_at_call 29; (with_reducible refine (RB.out _ Q1.out).mono ?_); rintro e w4 ⟨rfl, l⟩; have hSw4 := Q1.out.trans (l.mono Q1.out.size); have Q2 := Lib.hid hSw4; clear l)
  refine hK.out _ _ (by with_reducible assumption) (fun hHeld => ?_)
  clear hK K
  refine wpAnyH_ready (rs := [4]) (by kernel_rfl) (by simp) ?_
  refine AllReadyH.cons (o := { dst := some 16, op := Op.call { callee := Callee.value (Operand.func 30), args := #[Operand.tmp 13, Operand.tmp 15], argTypes := #[2, 2] }, type := 3, pos := "ref.go:50", after := #[{ on := 1, ground := Ground.data }, { on := 3, ground := Ground.data }, { on := 3, ground := Ground.chain }], guard := none }) rfl (fun K hK => ?_) AllReadyH.nil
  go_simp
  go_wp2_with (go_at_call 30; refine (refNum_any _ _ _).mono ?_; rintro e w5 ⟨rfl, rfl⟩)
  refine hK.out _ _ (by with_reducible assumption) (fun hHeld => ?_)
  clear hK K
  refine wpAnyH_ready (rs := [5]) (by kernel_rfl) (by simp) ?_
  refine AllReadyH.cons (o := { dst := some 4, op := Op.assign (Operand.tmp 16), type := 3, pos := "ref.go:50", after := #[{ on := 4, ground := Ground.data }, { on := 4, ground := Ground.chain }, { on := 0, ground := Ground.phase }, { on := 1, ground := Ground.phase }, { on := 2, ground := Ground.phase }, { on := 3, ground := Ground.phase }, { on := 4, ground := Ground.phase }], guard := none }) rfl (fun K hK => ?_) AllReadyH.nil
  go_simp
  refine hK.out _ _ (by with_reducible assumption) (fun hHeld => ?_)
  clear hK K
  refine wpAnyH_done (by kernel_rfl) ?_ _
  all_goals
    go_wp2_with fail
    go_ret
    exact ⟨rfl, PW.out _ Q2.out⟩
set_option maxHeartbeats 4000000 in
set_option maxRecDepth 100000 in
theorem refCmp_low0 (b1 : Bool) (n1 : Int) (s1 : ByteArray) (m1 : Nat) (f1 : Nat → VT) (q1 : Nat) (g1 : Nat → ByteArray) (A1 : Option Addr) (c1 : Nat) (B1 : Option Addr) (d1 : Nat) (b2 : Bool) (n2 : Int) (s2 : ByteArray) (m2 : Nat) (f2 : Nat → VT) (q2 : Nat) (g2 : Nat → ByteArray) (A2 : Option Addr) (c2 : Nat) (B2 : Option Addr) (d2 : Nat) (w : World) (ia : InV w (.mk 0 b1 n1 s1 m1 f1 q1 g1) #[.int .i64 0, .bool b1, .int .i64 n1, .string s1, .slice A1 m1 c1, .slice B1 q1 d1]) (ib : InV w (.mk 0 b2 n2 s2 m2 f2 q2 g2) #[.int .i64 0, .bool b2, .int .i64 n2, .string s2, .slice A2 m2 c2, .slice B2 q2 d2]) (p : Int) (r1 : rankV (.mk 0 b1 n1 s1 m1 f1 q1 g1) = p) (r2 : rankV (.mk 0 b2 n2 s2 m2 f2 q2 g2) = p) :
    Calls Tryd.prog 16 #[.agg #[.int .i64 0, .bool b1, .int .i64 n1, .string s1, .slice A1 m1 c1, .slice B1 q1 d1], .agg #[.int .i64 0, .bool b2, .int .i64 n2, .string s2, .slice A2 m2 c2, .slice B2 q2 d2]] w fun e w' => e = .returned (.int .i64 (0)) ∧ Below w.heap.size w w' := by
  have e1 : (p != p) = false := by simp
  have ka : 0 ≤ VT.k (.mk 0 b1 n1 s1 m1 f1 q1 g1) ∧ VT.k (.mk 0 b1 n1 s1 m1 f1 q1 g1) ≤ 5 := by show (0 : Int) ≤ 0 ∧ (0 : Int) ≤ 5; decide
  have kb : 0 ≤ VT.k (.mk 0 b2 n2 s2 m2 f2 q2 g2) ∧ VT.k (.mk 0 b2 n2 s2 m2 f2 q2 g2) ≤ 5 := by show (0 : Int) ≤ 0 ∧ (0 : Int) ≤ 5; decide
  obtain ⟨W0, hW⟩ : ∃ W0, W0 = (w.alloc (.cells #[.int .i64 0, .bool b1, .int .i64 n1, .string s1, .slice A1 m1 c1, .slice B1 q1 d1] 25)).alloc (.cells #[.int .i64 0, .bool b2, .int .i64 n2, .string s2, .slice A2 m2 c2, .slice B2 q2 d2] 25) := ⟨_, rfl⟩
  have hz : W0.heap.size = w.heap.size + 2 := by rw [hW]; simp
  have PW := Lib.hid (show ∀ W : World, Below W0.heap.size W0 W → Below w.heap.size w W from fun W hbel => by
    have l : Below w.heap.size w W0 := by rw [hW]; exact ((Below.refl _ _).alloc (Nat.le_refl _) _).alloc (by simp) _
    exact l.trans (hbel.mono (by omega)))
  have KS := Lib.hid (show ∀ W : World, Below W0.heap.size W0 W → W.cell? ⟨w.heap.size, 0, none⟩ = some (.int .i64 0) ∧ W.cell? ⟨w.heap.size, 1, none⟩ = some (.bool b1) ∧ W.cell? ⟨w.heap.size, 2, none⟩ = some (.int .i64 n1) ∧ W.cell? ⟨w.heap.size, 3, none⟩ = some (.string s1) ∧ W.cell? ⟨w.heap.size, 4, none⟩ = some (.slice A1 m1 c1) ∧ W.cell? ⟨w.heap.size, 5, none⟩ = some (.slice B1 q1 d1) ∧ W.cell? ⟨w.heap.size + 1, 0, none⟩ = some (.int .i64 0) ∧ W.cell? ⟨w.heap.size + 1, 1, none⟩ = some (.bool b2) ∧ W.cell? ⟨w.heap.size + 1, 2, none⟩ = some (.int .i64 n2) ∧ W.cell? ⟨w.heap.size + 1, 3, none⟩ = some (.string s2) ∧ W.cell? ⟨w.heap.size + 1, 4, none⟩ = some (.slice A2 m2 c2) ∧ W.cell? ⟨w.heap.size + 1, 5, none⟩ = some (.slice B2 q2 d2) from fun W hbel => by
    rw [hW] at hbel
    have Ba := boxed (w := w) (W1 := (w.alloc (.cells #[.int .i64 0, .bool b1, .int .i64 n1, .string s1, .slice A1 m1 c1, .slice B1 q1 d1] 25))) rfl (wr := W) (((Below.refl (w.alloc (.cells #[.int .i64 0, .bool b1, .int .i64 n1, .string s1, .slice A1 m1 c1, .slice B1 q1 d1] 25)).heap.size (w.alloc (.cells #[.int .i64 0, .bool b1, .int .i64 n1, .string s1, .slice A1 m1 c1, .slice B1 q1 d1] 25))).alloc (by simp only [World.size_alloc]; omega) (.cells #[.int .i64 0, .bool b2, .int .i64 n2, .string s2, .slice A2 m2 c2, .slice B2 q2 d2] 25)).trans (hbel.mono ((Below.refl (w.alloc (.cells #[.int .i64 0, .bool b1, .int .i64 n1, .string s1, .slice A1 m1 c1, .slice B1 q1 d1] 25)).heap.size (w.alloc (.cells #[.int .i64 0, .bool b1, .int .i64 n1, .string s1, .slice A1 m1 c1, .slice B1 q1 d1] 25))).alloc (by simp only [World.size_alloc]; omega) (.cells #[.int .i64 0, .bool b2, .int .i64 n2, .string s2, .slice A2 m2 c2, .slice B2 q2 d2] 25)).size))
    have Bb := boxed (w := (w.alloc (.cells #[.int .i64 0, .bool b1, .int .i64 n1, .string s1, .slice A1 m1 c1, .slice B1 q1 d1] 25))) (W1 := ((w.alloc (.cells #[.int .i64 0, .bool b1, .int .i64 n1, .string s1, .slice A1 m1 c1, .slice B1 q1 d1] 25)).alloc (.cells #[.int .i64 0, .bool b2, .int .i64 n2, .string s2, .slice A2 m2 c2, .slice B2 q2 d2] 25))) rfl (wr := W) hbel
    simp only [World.size_alloc] at Bb
    exact ⟨Ba.1, Ba.2.1, Ba.2.2.1, Ba.2.2.2.1, Ba.2.2.2.2.1, Ba.2.2.2.2.2.1, Bb.1, Bb.2.1, Bb.2.2.1, Bb.2.2.2.1, Bb.2.2.2.2.1, Bb.2.2.2.2.2.1⟩)
  have LD := Lib.hid (show ∀ W : World, Below W0.heap.size W0 W → W.rangeAt w.heap.size 0 [.int .i64 0, .bool b1, .int .i64 n1, .string s1, .slice A1 m1 c1, .slice B1 q1 d1] ∧ W.rangeAt (w.heap.size + 1) 0 [.int .i64 0, .bool b2, .int .i64 n2, .string s2, .slice A2 m2 c2, .slice B2 q2 d2] from fun W hbel => by
    obtain ⟨a0, a1, a2, a3, a4, a5, b0, b1, b2, b3, b4, b5⟩ := KS.out W hbel
    exact ⟨range6 a0 a1 a2 a3 a4 a5, range6 b0 b1 b2 b3 b4 b5⟩)
  have RA := Lib.hid (show ∀ W : World, Below W0.heap.size W0 W → Calls Tryd.prog 29 #[.agg #[.int .i64 0, .bool b1, .int .i64 n1, .string s1, .slice A1 m1 c1, .slice B1 q1 d1]] W fun e w' => e = .returned (.int .i64 p) ∧ Below W.heap.size W w' from fun W hbel => by rw [← r1]; exact refRank_any (.mk 0 b1 n1 s1 m1 f1 q1 g1) _ W (ia.keep (KeepC.below (PW.out W hbel))) ka)
  have RB := Lib.hid (show ∀ W : World, Below W0.heap.size W0 W → Calls Tryd.prog 29 #[.agg #[.int .i64 0, .bool b2, .int .i64 n2, .string s2, .slice A2 m2 c2, .slice B2 q2 d2]] W fun e w' => e = .returned (.int .i64 p) ∧ Below W.heap.size W w' from fun W hbel => by rw [← r2]; exact refRank_any (.mk 0 b2 n2 s2 m2 f2 q2 g2) _ W (ib.keep (KeepC.below (PW.out W hbel))) kb)
  have HW := Lib.hid hW
  clear hW hz ia ib r1 r2 ka kb
  go_enter Tryd.func16, Tryd.ntmps16
  go_wp2_with fail
  rw [← HW.out]
  have PD := Lib.hid (below_drew (Below.refl W0.heap.size W0))
  refine wp_region_held_drew (S := fun W => Below W0.heap.size W0 W) (by kernel_rfl) (PD.out) (fun hHeld => ?_)
  refine wpAnyH_take (i := 0) (oi := { dst := some 7, op := Op.load 25 (Operand.tmp 2), type := 25, pos := "ref.go:49", after := #[], guard := none }) (v := .agg #[.int .i64 0, .bool b1, .int .i64 n1, .string s1, .slice A1 m1 c1, .slice B1 q1 d1]) rfl (by kernel_rfl) (by kernel_rfl) (by kernel_rfl) (fun _ _ _ h => h) (yieldsIf_load_mid (by kernel_rfl) 25 (.tmp 2) rfl (w.heap.size) (0) (by kernel_rfl) [.int .i64 0, .bool b1, .int .i64 n1, .string s1, .slice A1 m1 c1, .slice B1 q1 d1] _ (fun W hW => (LD.out W hW).1) Tryd.underlying25 rfl (by kernel_rfl)) (by with_reducible assumption) ?_
  simp only [Act.put]
  refine wpAnyH_take (i := 2) (oi := { dst := some 9, op := Op.load 25 (Operand.tmp 3), type := 25, pos := "ref.go:49", after := #[], guard := none }) (v := .agg #[.int .i64 0, .bool b2, .int .i64 n2, .string s2, .slice A2 m2 c2, .slice B2 q2 d2]) rfl (by kernel_rfl) (by kernel_rfl) (by kernel_rfl) (fun _ _ _ h => h) (yieldsIf_load_mid (by kernel_rfl) 25 (.tmp 3) rfl (w.heap.size + 1) (0) (by kernel_rfl) [.int .i64 0, .bool b2, .int .i64 n2, .string s2, .slice A2 m2 c2, .slice B2 q2 d2] _ (fun W hW => (LD.out W hW).2) Tryd.underlying25 rfl (by kernel_rfl)) (by with_reducible assumption) ?_
  simp only [Act.put]
  refine wpAnyH_ready (rs := [1]) (by kernel_rfl) (by simp) ?_
  refine AllReadyH.cons (o := { dst := some 8, op := Op.call { callee := Callee.value (Operand.func 29), args := #[Operand.tmp 7], argTypes := #[25] }, type := 3, pos := "ref.go:49", after := #[{ on := 0, ground := Ground.data }], guard := none }) rfl (fun K hK => ?_) AllReadyH.nil
  go_simp
  go_wp2_with (go_at_call 29; (with_reducible refine (RA.out _ PD.out).mono ?_); rintro e w1 ⟨rfl, l⟩; have hSw1 := PD.out.trans (l.mono PD.out.size); have P1 := Lib.hid hSw1; clear l)
  refine hK.out _ _ (by with_reducible assumption) (fun hHeld => ?_)
  clear hK K
  refine wpAnyH_ready (rs := [3]) (by kernel_rfl) (by simp) ?_
  refine AllReadyH.cons (o := { dst := some 10, op := Op.call { callee := Callee.value (Operand.func 29), args := #[Operand.tmp 9], argTypes := #[25] }, type := 3, pos := "ref.go:49", after := #[{ on := 2, ground := Ground.data }, { on := 1, ground := Ground.chain }], guard := none }) rfl (fun K hK => ?_) AllReadyH.nil
  go_simp
  go_wp2_with (go_at_call 29; (with_reducible refine (RB.out _ P1.out).mono ?_); rintro e w2 ⟨rfl, l⟩; have hSw2 := P1.out.trans (l.mono P1.out.size); have P2 := Lib.hid hSw2; clear l)
  refine hK.out _ _ (by with_reducible assumption) (fun hHeld => ?_)
  clear hK K
  refine wpAnyH_take (i := 4) (oi := { dst := some 11, op := Op.binOp BinOp.neq 3 (Operand.tmp 8) (Operand.tmp 10) 3, type := 4, pos := "ref.go:49", after := #[{ on := 1, ground := Ground.data }, { on := 3, ground := Ground.data }], guard := none }) (v := ?_) rfl (by kernel_rfl) (by kernel_rfl) (by kernel_rfl) (fun _ _ _ h => h) (Or.inl ⟨by kernel_rfl, ?_⟩) (by with_reducible assumption) ?_
  rotate_left 1
  · (intro w0 hSw; (try dsimp only at hSw); go_simp; (try with_reducible rfl))
  simp only [Act.put]
  refine wpAnyH_done (by kernel_rfl) ?_ _
  all_goals
    clear hHeld hSw1 hSw2
    obtain ⟨a0, _, _, _, _, _, b0, _, _, _, _, _⟩ := KS.out _ P2.out
    go_wp2_with fail
    go_ret
    exact ⟨rfl, PW.out _ P2.out⟩
set_option maxHeartbeats 4000000 in
set_option maxRecDepth 100000 in
theorem refCmp_low1 (b1 : Bool) (n1 : Int) (s1 : ByteArray) (m1 : Nat) (f1 : Nat → VT) (q1 : Nat) (g1 : Nat → ByteArray) (A1 : Option Addr) (c1 : Nat) (B1 : Option Addr) (d1 : Nat) (b2 : Bool) (n2 : Int) (s2 : ByteArray) (m2 : Nat) (f2 : Nat → VT) (q2 : Nat) (g2 : Nat → ByteArray) (A2 : Option Addr) (c2 : Nat) (B2 : Option Addr) (d2 : Nat) (w : World) (ia : InV w (.mk 1 b1 n1 s1 m1 f1 q1 g1) #[.int .i64 1, .bool b1, .int .i64 n1, .string s1, .slice A1 m1 c1, .slice B1 q1 d1]) (ib : InV w (.mk 1 b2 n2 s2 m2 f2 q2 g2) #[.int .i64 1, .bool b2, .int .i64 n2, .string s2, .slice A2 m2 c2, .slice B2 q2 d2]) (p : Int) (r1 : rankV (.mk 1 b1 n1 s1 m1 f1 q1 g1) = p) (r2 : rankV (.mk 1 b2 n2 s2 m2 f2 q2 g2) = p) :
    Calls Tryd.prog 16 #[.agg #[.int .i64 1, .bool b1, .int .i64 n1, .string s1, .slice A1 m1 c1, .slice B1 q1 d1], .agg #[.int .i64 1, .bool b2, .int .i64 n2, .string s2, .slice A2 m2 c2, .slice B2 q2 d2]] w fun e w' => e = .returned (.int .i64 (0)) ∧ Below w.heap.size w w' := by
  have e1 : (p != p) = false := by simp
  have ka : 0 ≤ VT.k (.mk 1 b1 n1 s1 m1 f1 q1 g1) ∧ VT.k (.mk 1 b1 n1 s1 m1 f1 q1 g1) ≤ 5 := by show (0 : Int) ≤ 1 ∧ (1 : Int) ≤ 5; decide
  have kb : 0 ≤ VT.k (.mk 1 b2 n2 s2 m2 f2 q2 g2) ∧ VT.k (.mk 1 b2 n2 s2 m2 f2 q2 g2) ≤ 5 := by show (0 : Int) ≤ 1 ∧ (1 : Int) ≤ 5; decide
  obtain ⟨W0, hW⟩ : ∃ W0, W0 = (w.alloc (.cells #[.int .i64 1, .bool b1, .int .i64 n1, .string s1, .slice A1 m1 c1, .slice B1 q1 d1] 25)).alloc (.cells #[.int .i64 1, .bool b2, .int .i64 n2, .string s2, .slice A2 m2 c2, .slice B2 q2 d2] 25) := ⟨_, rfl⟩
  have hz : W0.heap.size = w.heap.size + 2 := by rw [hW]; simp
  have PW := Lib.hid (show ∀ W : World, Below W0.heap.size W0 W → Below w.heap.size w W from fun W hbel => by
    have l : Below w.heap.size w W0 := by rw [hW]; exact ((Below.refl _ _).alloc (Nat.le_refl _) _).alloc (by simp) _
    exact l.trans (hbel.mono (by omega)))
  have KS := Lib.hid (show ∀ W : World, Below W0.heap.size W0 W → W.cell? ⟨w.heap.size, 0, none⟩ = some (.int .i64 1) ∧ W.cell? ⟨w.heap.size, 1, none⟩ = some (.bool b1) ∧ W.cell? ⟨w.heap.size, 2, none⟩ = some (.int .i64 n1) ∧ W.cell? ⟨w.heap.size, 3, none⟩ = some (.string s1) ∧ W.cell? ⟨w.heap.size, 4, none⟩ = some (.slice A1 m1 c1) ∧ W.cell? ⟨w.heap.size, 5, none⟩ = some (.slice B1 q1 d1) ∧ W.cell? ⟨w.heap.size + 1, 0, none⟩ = some (.int .i64 1) ∧ W.cell? ⟨w.heap.size + 1, 1, none⟩ = some (.bool b2) ∧ W.cell? ⟨w.heap.size + 1, 2, none⟩ = some (.int .i64 n2) ∧ W.cell? ⟨w.heap.size + 1, 3, none⟩ = some (.string s2) ∧ W.cell? ⟨w.heap.size + 1, 4, none⟩ = some (.slice A2 m2 c2) ∧ W.cell? ⟨w.heap.size + 1, 5, none⟩ = some (.slice B2 q2 d2) from fun W hbel => by
    rw [hW] at hbel
    have Ba := boxed (w := w) (W1 := (w.alloc (.cells #[.int .i64 1, .bool b1, .int .i64 n1, .string s1, .slice A1 m1 c1, .slice B1 q1 d1] 25))) rfl (wr := W) (((Below.refl (w.alloc (.cells #[.int .i64 1, .bool b1, .int .i64 n1, .string s1, .slice A1 m1 c1, .slice B1 q1 d1] 25)).heap.size (w.alloc (.cells #[.int .i64 1, .bool b1, .int .i64 n1, .string s1, .slice A1 m1 c1, .slice B1 q1 d1] 25))).alloc (by simp only [World.size_alloc]; omega) (.cells #[.int .i64 1, .bool b2, .int .i64 n2, .string s2, .slice A2 m2 c2, .slice B2 q2 d2] 25)).trans (hbel.mono ((Below.refl (w.alloc (.cells #[.int .i64 1, .bool b1, .int .i64 n1, .string s1, .slice A1 m1 c1, .slice B1 q1 d1] 25)).heap.size (w.alloc (.cells #[.int .i64 1, .bool b1, .int .i64 n1, .string s1, .slice A1 m1 c1, .slice B1 q1 d1] 25))).alloc (by simp only [World.size_alloc]; omega) (.cells #[.int .i64 1, .bool b2, .int .i64 n2, .string s2, .slice A2 m2 c2, .slice B2 q2 d2] 25)).size))
    have Bb := boxed (w := (w.alloc (.cells #[.int .i64 1, .bool b1, .int .i64 n1, .string s1, .slice A1 m1 c1, .slice B1 q1 d1] 25))) (W1 := ((w.alloc (.cells #[.int .i64 1, .bool b1, .int .i64 n1, .string s1, .slice A1 m1 c1, .slice B1 q1 d1] 25)).alloc (.cells #[.int .i64 1, .bool b2, .int .i64 n2, .string s2, .slice A2 m2 c2, .slice B2 q2 d2] 25))) rfl (wr := W) hbel
    simp only [World.size_alloc] at Bb
    exact ⟨Ba.1, Ba.2.1, Ba.2.2.1, Ba.2.2.2.1, Ba.2.2.2.2.1, Ba.2.2.2.2.2.1, Bb.1, Bb.2.1, Bb.2.2.1, Bb.2.2.2.1, Bb.2.2.2.2.1, Bb.2.2.2.2.2.1⟩)
  have LD := Lib.hid (show ∀ W : World, Below W0.heap.size W0 W → W.rangeAt w.heap.size 0 [.int .i64 1, .bool b1, .int .i64 n1, .string s1, .slice A1 m1 c1, .slice B1 q1 d1] ∧ W.rangeAt (w.heap.size + 1) 0 [.int .i64 1, .bool b2, .int .i64 n2, .string s2, .slice A2 m2 c2, .slice B2 q2 d2] from fun W hbel => by
    obtain ⟨a0, a1, a2, a3, a4, a5, b0, b1, b2, b3, b4, b5⟩ := KS.out W hbel
    exact ⟨range6 a0 a1 a2 a3 a4 a5, range6 b0 b1 b2 b3 b4 b5⟩)
  have RA := Lib.hid (show ∀ W : World, Below W0.heap.size W0 W → Calls Tryd.prog 29 #[.agg #[.int .i64 1, .bool b1, .int .i64 n1, .string s1, .slice A1 m1 c1, .slice B1 q1 d1]] W fun e w' => e = .returned (.int .i64 p) ∧ Below W.heap.size W w' from fun W hbel => by rw [← r1]; exact refRank_any (.mk 1 b1 n1 s1 m1 f1 q1 g1) _ W (ia.keep (KeepC.below (PW.out W hbel))) ka)
  have RB := Lib.hid (show ∀ W : World, Below W0.heap.size W0 W → Calls Tryd.prog 29 #[.agg #[.int .i64 1, .bool b2, .int .i64 n2, .string s2, .slice A2 m2 c2, .slice B2 q2 d2]] W fun e w' => e = .returned (.int .i64 p) ∧ Below W.heap.size W w' from fun W hbel => by rw [← r2]; exact refRank_any (.mk 1 b2 n2 s2 m2 f2 q2 g2) _ W (ib.keep (KeepC.below (PW.out W hbel))) kb)
  have HW := Lib.hid hW
  clear hW hz ia ib r1 r2 ka kb
  go_enter Tryd.func16, Tryd.ntmps16
  go_wp2_with fail
  rw [← HW.out]
  have PD := Lib.hid (below_drew (Below.refl W0.heap.size W0))
  refine wp_region_held_drew (S := fun W => Below W0.heap.size W0 W) (by kernel_rfl) (PD.out) (fun hHeld => ?_)
  refine wpAnyH_take (i := 0) (oi := { dst := some 7, op := Op.load 25 (Operand.tmp 2), type := 25, pos := "ref.go:49", after := #[], guard := none }) (v := .agg #[.int .i64 1, .bool b1, .int .i64 n1, .string s1, .slice A1 m1 c1, .slice B1 q1 d1]) rfl (by kernel_rfl) (by kernel_rfl) (by kernel_rfl) (fun _ _ _ h => h) (yieldsIf_load_mid (by kernel_rfl) 25 (.tmp 2) rfl (w.heap.size) (0) (by kernel_rfl) [.int .i64 1, .bool b1, .int .i64 n1, .string s1, .slice A1 m1 c1, .slice B1 q1 d1] _ (fun W hW => (LD.out W hW).1) Tryd.underlying25 rfl (by kernel_rfl)) (by with_reducible assumption) ?_
  simp only [Act.put]
  refine wpAnyH_take (i := 2) (oi := { dst := some 9, op := Op.load 25 (Operand.tmp 3), type := 25, pos := "ref.go:49", after := #[], guard := none }) (v := .agg #[.int .i64 1, .bool b2, .int .i64 n2, .string s2, .slice A2 m2 c2, .slice B2 q2 d2]) rfl (by kernel_rfl) (by kernel_rfl) (by kernel_rfl) (fun _ _ _ h => h) (yieldsIf_load_mid (by kernel_rfl) 25 (.tmp 3) rfl (w.heap.size + 1) (0) (by kernel_rfl) [.int .i64 1, .bool b2, .int .i64 n2, .string s2, .slice A2 m2 c2, .slice B2 q2 d2] _ (fun W hW => (LD.out W hW).2) Tryd.underlying25 rfl (by kernel_rfl)) (by with_reducible assumption) ?_
  simp only [Act.put]
  refine wpAnyH_ready (rs := [1]) (by kernel_rfl) (by simp) ?_
  refine AllReadyH.cons (o := { dst := some 8, op := Op.call { callee := Callee.value (Operand.func 29), args := #[Operand.tmp 7], argTypes := #[25] }, type := 3, pos := "ref.go:49", after := #[{ on := 0, ground := Ground.data }], guard := none }) rfl (fun K hK => ?_) AllReadyH.nil
  go_simp
  go_wp2_with (go_at_call 29; (with_reducible refine (RA.out _ PD.out).mono ?_); rintro e w1 ⟨rfl, l⟩; have hSw1 := PD.out.trans (l.mono PD.out.size); have P1 := Lib.hid hSw1; clear l)
  refine hK.out _ _ (by with_reducible assumption) (fun hHeld => ?_)
  clear hK K
  refine wpAnyH_ready (rs := [3]) (by kernel_rfl) (by simp) ?_
  refine AllReadyH.cons (o := { dst := some 10, op := Op.call { callee := Callee.value (Operand.func 29), args := #[Operand.tmp 9], argTypes := #[25] }, type := 3, pos := "ref.go:49", after := #[{ on := 2, ground := Ground.data }, { on := 1, ground := Ground.chain }], guard := none }) rfl (fun K hK => ?_) AllReadyH.nil
  go_simp
  go_wp2_with (go_at_call 29; (with_reducible refine (RB.out _ P1.out).mono ?_); rintro e w2 ⟨rfl, l⟩; have hSw2 := P1.out.trans (l.mono P1.out.size); have P2 := Lib.hid hSw2; clear l)
  refine hK.out _ _ (by with_reducible assumption) (fun hHeld => ?_)
  clear hK K
  refine wpAnyH_take (i := 4) (oi := { dst := some 11, op := Op.binOp BinOp.neq 3 (Operand.tmp 8) (Operand.tmp 10) 3, type := 4, pos := "ref.go:49", after := #[{ on := 1, ground := Ground.data }, { on := 3, ground := Ground.data }], guard := none }) (v := ?_) rfl (by kernel_rfl) (by kernel_rfl) (by kernel_rfl) (fun _ _ _ h => h) (Or.inl ⟨by kernel_rfl, ?_⟩) (by with_reducible assumption) ?_
  rotate_left 1
  · (intro w0 hSw; (try dsimp only at hSw); go_simp; (try with_reducible rfl))
  simp only [Act.put]
  refine wpAnyH_done (by kernel_rfl) ?_ _
  all_goals
    clear hHeld hSw1 hSw2
    obtain ⟨a0, _, _, _, _, _, b0, _, _, _, _, _⟩ := KS.out _ P2.out
    go_wp2_with fail
    go_ret
    exact ⟨rfl, PW.out _ P2.out⟩
set_option maxHeartbeats 4000000 in
set_option maxRecDepth 100000 in
theorem refCmp_num (b1 : Bool) (n1 : Int) (s1 : ByteArray) (m1 : Nat) (f1 : Nat → VT) (q1 : Nat) (g1 : Nat → ByteArray) (A1 : Option Addr) (c1 : Nat) (B1 : Option Addr) (d1 : Nat) (b2 : Bool) (n2 : Int) (s2 : ByteArray) (m2 : Nat) (f2 : Nat → VT) (q2 : Nat) (g2 : Nat → ByteArray) (A2 : Option Addr) (c2 : Nat) (B2 : Option Addr) (d2 : Nat) (w : World) (ia : InV w (.mk 2 b1 n1 s1 m1 f1 q1 g1) #[.int .i64 2, .bool b1, .int .i64 n1, .string s1, .slice A1 m1 c1, .slice B1 q1 d1]) (ib : InV w (.mk 2 b2 n2 s2 m2 f2 q2 g2) #[.int .i64 2, .bool b2, .int .i64 n2, .string s2, .slice A2 m2 c2, .slice B2 q2 d2]) (p : Int) (r1 : rankV (.mk 2 b1 n1 s1 m1 f1 q1 g1) = p) (r2 : rankV (.mk 2 b2 n2 s2 m2 f2 q2 g2) = p) :
    Calls Tryd.prog 16 #[.agg #[.int .i64 2, .bool b1, .int .i64 n1, .string s1, .slice A1 m1 c1, .slice B1 q1 d1], .agg #[.int .i64 2, .bool b2, .int .i64 n2, .string s2, .slice A2 m2 c2, .slice B2 q2 d2]] w fun e w' => e = .returned (.int .i64 (cmpI n1 n2)) ∧ Below w.heap.size w w' := by
  have e1 : (p != p) = false := by simp
  have ka : 0 ≤ VT.k (.mk 2 b1 n1 s1 m1 f1 q1 g1) ∧ VT.k (.mk 2 b1 n1 s1 m1 f1 q1 g1) ≤ 5 := by show (0 : Int) ≤ 2 ∧ (2 : Int) ≤ 5; decide
  have kb : 0 ≤ VT.k (.mk 2 b2 n2 s2 m2 f2 q2 g2) ∧ VT.k (.mk 2 b2 n2 s2 m2 f2 q2 g2) ≤ 5 := by show (0 : Int) ≤ 2 ∧ (2 : Int) ≤ 5; decide
  obtain ⟨W0, hW⟩ : ∃ W0, W0 = (w.alloc (.cells #[.int .i64 2, .bool b1, .int .i64 n1, .string s1, .slice A1 m1 c1, .slice B1 q1 d1] 25)).alloc (.cells #[.int .i64 2, .bool b2, .int .i64 n2, .string s2, .slice A2 m2 c2, .slice B2 q2 d2] 25) := ⟨_, rfl⟩
  have hz : W0.heap.size = w.heap.size + 2 := by rw [hW]; simp
  have PW := Lib.hid (show ∀ W : World, Below W0.heap.size W0 W → Below w.heap.size w W from fun W hbel => by
    have l : Below w.heap.size w W0 := by rw [hW]; exact ((Below.refl _ _).alloc (Nat.le_refl _) _).alloc (by simp) _
    exact l.trans (hbel.mono (by omega)))
  have KS := Lib.hid (show ∀ W : World, Below W0.heap.size W0 W → W.cell? ⟨w.heap.size, 0, none⟩ = some (.int .i64 2) ∧ W.cell? ⟨w.heap.size, 1, none⟩ = some (.bool b1) ∧ W.cell? ⟨w.heap.size, 2, none⟩ = some (.int .i64 n1) ∧ W.cell? ⟨w.heap.size, 3, none⟩ = some (.string s1) ∧ W.cell? ⟨w.heap.size, 4, none⟩ = some (.slice A1 m1 c1) ∧ W.cell? ⟨w.heap.size, 5, none⟩ = some (.slice B1 q1 d1) ∧ W.cell? ⟨w.heap.size + 1, 0, none⟩ = some (.int .i64 2) ∧ W.cell? ⟨w.heap.size + 1, 1, none⟩ = some (.bool b2) ∧ W.cell? ⟨w.heap.size + 1, 2, none⟩ = some (.int .i64 n2) ∧ W.cell? ⟨w.heap.size + 1, 3, none⟩ = some (.string s2) ∧ W.cell? ⟨w.heap.size + 1, 4, none⟩ = some (.slice A2 m2 c2) ∧ W.cell? ⟨w.heap.size + 1, 5, none⟩ = some (.slice B2 q2 d2) from fun W hbel => by
    rw [hW] at hbel
    have Ba := boxed (w := w) (W1 := (w.alloc (.cells #[.int .i64 2, .bool b1, .int .i64 n1, .string s1, .slice A1 m1 c1, .slice B1 q1 d1] 25))) rfl (wr := W) (((Below.refl (w.alloc (.cells #[.int .i64 2, .bool b1, .int .i64 n1, .string s1, .slice A1 m1 c1, .slice B1 q1 d1] 25)).heap.size (w.alloc (.cells #[.int .i64 2, .bool b1, .int .i64 n1, .string s1, .slice A1 m1 c1, .slice B1 q1 d1] 25))).alloc (by simp only [World.size_alloc]; omega) (.cells #[.int .i64 2, .bool b2, .int .i64 n2, .string s2, .slice A2 m2 c2, .slice B2 q2 d2] 25)).trans (hbel.mono ((Below.refl (w.alloc (.cells #[.int .i64 2, .bool b1, .int .i64 n1, .string s1, .slice A1 m1 c1, .slice B1 q1 d1] 25)).heap.size (w.alloc (.cells #[.int .i64 2, .bool b1, .int .i64 n1, .string s1, .slice A1 m1 c1, .slice B1 q1 d1] 25))).alloc (by simp only [World.size_alloc]; omega) (.cells #[.int .i64 2, .bool b2, .int .i64 n2, .string s2, .slice A2 m2 c2, .slice B2 q2 d2] 25)).size))
    have Bb := boxed (w := (w.alloc (.cells #[.int .i64 2, .bool b1, .int .i64 n1, .string s1, .slice A1 m1 c1, .slice B1 q1 d1] 25))) (W1 := ((w.alloc (.cells #[.int .i64 2, .bool b1, .int .i64 n1, .string s1, .slice A1 m1 c1, .slice B1 q1 d1] 25)).alloc (.cells #[.int .i64 2, .bool b2, .int .i64 n2, .string s2, .slice A2 m2 c2, .slice B2 q2 d2] 25))) rfl (wr := W) hbel
    simp only [World.size_alloc] at Bb
    exact ⟨Ba.1, Ba.2.1, Ba.2.2.1, Ba.2.2.2.1, Ba.2.2.2.2.1, Ba.2.2.2.2.2.1, Bb.1, Bb.2.1, Bb.2.2.1, Bb.2.2.2.1, Bb.2.2.2.2.1, Bb.2.2.2.2.2.1⟩)
  have LD := Lib.hid (show ∀ W : World, Below W0.heap.size W0 W → W.rangeAt w.heap.size 0 [.int .i64 2, .bool b1, .int .i64 n1, .string s1, .slice A1 m1 c1, .slice B1 q1 d1] ∧ W.rangeAt (w.heap.size + 1) 0 [.int .i64 2, .bool b2, .int .i64 n2, .string s2, .slice A2 m2 c2, .slice B2 q2 d2] from fun W hbel => by
    obtain ⟨a0, a1, a2, a3, a4, a5, b0, b1, b2, b3, b4, b5⟩ := KS.out W hbel
    exact ⟨range6 a0 a1 a2 a3 a4 a5, range6 b0 b1 b2 b3 b4 b5⟩)
  have RA := Lib.hid (show ∀ W : World, Below W0.heap.size W0 W → Calls Tryd.prog 29 #[.agg #[.int .i64 2, .bool b1, .int .i64 n1, .string s1, .slice A1 m1 c1, .slice B1 q1 d1]] W fun e w' => e = .returned (.int .i64 p) ∧ Below W.heap.size W w' from fun W hbel => by rw [← r1]; exact refRank_any (.mk 2 b1 n1 s1 m1 f1 q1 g1) _ W (ia.keep (KeepC.below (PW.out W hbel))) ka)
  have RB := Lib.hid (show ∀ W : World, Below W0.heap.size W0 W → Calls Tryd.prog 29 #[.agg #[.int .i64 2, .bool b2, .int .i64 n2, .string s2, .slice A2 m2 c2, .slice B2 q2 d2]] W fun e w' => e = .returned (.int .i64 p) ∧ Below W.heap.size W w' from fun W hbel => by rw [← r2]; exact refRank_any (.mk 2 b2 n2 s2 m2 f2 q2 g2) _ W (ib.keep (KeepC.below (PW.out W hbel))) kb)
  have HW := Lib.hid hW
  clear hW hz ia ib r1 r2 ka kb
  go_enter Tryd.func16, Tryd.ntmps16
  go_wp2_with fail
  rw [← HW.out]
  have PD := Lib.hid (below_drew (Below.refl W0.heap.size W0))
  refine wp_region_held_drew (S := fun W => Below W0.heap.size W0 W) (by kernel_rfl) (PD.out) (fun hHeld => ?_)
  refine wpAnyH_take (i := 0) (oi := { dst := some 7, op := Op.load 25 (Operand.tmp 2), type := 25, pos := "ref.go:49", after := #[], guard := none }) (v := .agg #[.int .i64 2, .bool b1, .int .i64 n1, .string s1, .slice A1 m1 c1, .slice B1 q1 d1]) rfl (by kernel_rfl) (by kernel_rfl) (by kernel_rfl) (fun _ _ _ h => h) (yieldsIf_load_mid (by kernel_rfl) 25 (.tmp 2) rfl (w.heap.size) (0) (by kernel_rfl) [.int .i64 2, .bool b1, .int .i64 n1, .string s1, .slice A1 m1 c1, .slice B1 q1 d1] _ (fun W hW => (LD.out W hW).1) Tryd.underlying25 rfl (by kernel_rfl)) (by with_reducible assumption) ?_
  simp only [Act.put]
  refine wpAnyH_take (i := 2) (oi := { dst := some 9, op := Op.load 25 (Operand.tmp 3), type := 25, pos := "ref.go:49", after := #[], guard := none }) (v := .agg #[.int .i64 2, .bool b2, .int .i64 n2, .string s2, .slice A2 m2 c2, .slice B2 q2 d2]) rfl (by kernel_rfl) (by kernel_rfl) (by kernel_rfl) (fun _ _ _ h => h) (yieldsIf_load_mid (by kernel_rfl) 25 (.tmp 3) rfl (w.heap.size + 1) (0) (by kernel_rfl) [.int .i64 2, .bool b2, .int .i64 n2, .string s2, .slice A2 m2 c2, .slice B2 q2 d2] _ (fun W hW => (LD.out W hW).2) Tryd.underlying25 rfl (by kernel_rfl)) (by with_reducible assumption) ?_
  simp only [Act.put]
  refine wpAnyH_ready (rs := [1]) (by kernel_rfl) (by simp) ?_
  refine AllReadyH.cons (o := { dst := some 8, op := Op.call { callee := Callee.value (Operand.func 29), args := #[Operand.tmp 7], argTypes := #[25] }, type := 3, pos := "ref.go:49", after := #[{ on := 0, ground := Ground.data }], guard := none }) rfl (fun K hK => ?_) AllReadyH.nil
  go_simp
  go_wp2_with (go_at_call 29; (with_reducible refine (RA.out _ PD.out).mono ?_); rintro e w1 ⟨rfl, l⟩; have hSw1 := PD.out.trans (l.mono PD.out.size); have P1 := Lib.hid hSw1; clear l)
  refine hK.out _ _ (by with_reducible assumption) (fun hHeld => ?_)
  clear hK K
  refine wpAnyH_ready (rs := [3]) (by kernel_rfl) (by simp) ?_
  refine AllReadyH.cons (o := { dst := some 10, op := Op.call { callee := Callee.value (Operand.func 29), args := #[Operand.tmp 9], argTypes := #[25] }, type := 3, pos := "ref.go:49", after := #[{ on := 2, ground := Ground.data }, { on := 1, ground := Ground.chain }], guard := none }) rfl (fun K hK => ?_) AllReadyH.nil
  go_simp
  go_wp2_with (go_at_call 29; (with_reducible refine (RB.out _ P1.out).mono ?_); rintro e w2 ⟨rfl, l⟩; have hSw2 := P1.out.trans (l.mono P1.out.size); have P2 := Lib.hid hSw2; clear l)
  refine hK.out _ _ (by with_reducible assumption) (fun hHeld => ?_)
  clear hK K
  refine wpAnyH_take (i := 4) (oi := { dst := some 11, op := Op.binOp BinOp.neq 3 (Operand.tmp 8) (Operand.tmp 10) 3, type := 4, pos := "ref.go:49", after := #[{ on := 1, ground := Ground.data }, { on := 3, ground := Ground.data }], guard := none }) (v := ?_) rfl (by kernel_rfl) (by kernel_rfl) (by kernel_rfl) (fun _ _ _ h => h) (Or.inl ⟨by kernel_rfl, ?_⟩) (by with_reducible assumption) ?_
  rotate_left 1
  · (intro w0 hSw; (try dsimp only at hSw); go_simp; (try with_reducible rfl))
  simp only [Act.put]
  refine wpAnyH_done (by kernel_rfl) ?_ _
  all_goals
    clear hHeld hSw1 hSw2
    obtain ⟨a0, _, a2, a3, _, _, b0, _, b2, b3, _, _⟩ := KS.out _ P2.out
    go_wp2_with fail
    refine (refNum_any _ _ _).mono ?_
    rintro e w3 ⟨rfl, rfl⟩
    go_wp2_with fail
    go_ret
    exact ⟨rfl, PW.out _ P2.out⟩
set_option maxHeartbeats 4000000 in
set_option maxRecDepth 100000 in
theorem refCmp_text (b1 : Bool) (n1 : Int) (s1 : ByteArray) (m1 : Nat) (f1 : Nat → VT) (q1 : Nat) (g1 : Nat → ByteArray) (A1 : Option Addr) (c1 : Nat) (B1 : Option Addr) (d1 : Nat) (b2 : Bool) (n2 : Int) (s2 : ByteArray) (m2 : Nat) (f2 : Nat → VT) (q2 : Nat) (g2 : Nat → ByteArray) (A2 : Option Addr) (c2 : Nat) (B2 : Option Addr) (d2 : Nat) (w : World) (ia : InV w (.mk 3 b1 n1 s1 m1 f1 q1 g1) #[.int .i64 3, .bool b1, .int .i64 n1, .string s1, .slice A1 m1 c1, .slice B1 q1 d1]) (ib : InV w (.mk 3 b2 n2 s2 m2 f2 q2 g2) #[.int .i64 3, .bool b2, .int .i64 n2, .string s2, .slice A2 m2 c2, .slice B2 q2 d2]) (p : Int) (r1 : rankV (.mk 3 b1 n1 s1 m1 f1 q1 g1) = p) (r2 : rankV (.mk 3 b2 n2 s2 m2 f2 q2 g2) = p) :
    Calls Tryd.prog 16 #[.agg #[.int .i64 3, .bool b1, .int .i64 n1, .string s1, .slice A1 m1 c1, .slice B1 q1 d1], .agg #[.int .i64 3, .bool b2, .int .i64 n2, .string s2, .slice A2 m2 c2, .slice B2 q2 d2]] w fun e w' => e = .returned (.int .i64 (cmpS s1.data.toList s2.data.toList)) ∧ Below w.heap.size w w' := by
  have e1 : (p != p) = false := by simp
  have ka : 0 ≤ VT.k (.mk 3 b1 n1 s1 m1 f1 q1 g1) ∧ VT.k (.mk 3 b1 n1 s1 m1 f1 q1 g1) ≤ 5 := by show (0 : Int) ≤ 3 ∧ (3 : Int) ≤ 5; decide
  have kb : 0 ≤ VT.k (.mk 3 b2 n2 s2 m2 f2 q2 g2) ∧ VT.k (.mk 3 b2 n2 s2 m2 f2 q2 g2) ≤ 5 := by show (0 : Int) ≤ 3 ∧ (3 : Int) ≤ 5; decide
  obtain ⟨W0, hW⟩ : ∃ W0, W0 = (w.alloc (.cells #[.int .i64 3, .bool b1, .int .i64 n1, .string s1, .slice A1 m1 c1, .slice B1 q1 d1] 25)).alloc (.cells #[.int .i64 3, .bool b2, .int .i64 n2, .string s2, .slice A2 m2 c2, .slice B2 q2 d2] 25) := ⟨_, rfl⟩
  have hz : W0.heap.size = w.heap.size + 2 := by rw [hW]; simp
  have PW := Lib.hid (show ∀ W : World, Below W0.heap.size W0 W → Below w.heap.size w W from fun W hbel => by
    have l : Below w.heap.size w W0 := by rw [hW]; exact ((Below.refl _ _).alloc (Nat.le_refl _) _).alloc (by simp) _
    exact l.trans (hbel.mono (by omega)))
  have KS := Lib.hid (show ∀ W : World, Below W0.heap.size W0 W → W.cell? ⟨w.heap.size, 0, none⟩ = some (.int .i64 3) ∧ W.cell? ⟨w.heap.size, 1, none⟩ = some (.bool b1) ∧ W.cell? ⟨w.heap.size, 2, none⟩ = some (.int .i64 n1) ∧ W.cell? ⟨w.heap.size, 3, none⟩ = some (.string s1) ∧ W.cell? ⟨w.heap.size, 4, none⟩ = some (.slice A1 m1 c1) ∧ W.cell? ⟨w.heap.size, 5, none⟩ = some (.slice B1 q1 d1) ∧ W.cell? ⟨w.heap.size + 1, 0, none⟩ = some (.int .i64 3) ∧ W.cell? ⟨w.heap.size + 1, 1, none⟩ = some (.bool b2) ∧ W.cell? ⟨w.heap.size + 1, 2, none⟩ = some (.int .i64 n2) ∧ W.cell? ⟨w.heap.size + 1, 3, none⟩ = some (.string s2) ∧ W.cell? ⟨w.heap.size + 1, 4, none⟩ = some (.slice A2 m2 c2) ∧ W.cell? ⟨w.heap.size + 1, 5, none⟩ = some (.slice B2 q2 d2) from fun W hbel => by
    rw [hW] at hbel
    have Ba := boxed (w := w) (W1 := (w.alloc (.cells #[.int .i64 3, .bool b1, .int .i64 n1, .string s1, .slice A1 m1 c1, .slice B1 q1 d1] 25))) rfl (wr := W) (((Below.refl (w.alloc (.cells #[.int .i64 3, .bool b1, .int .i64 n1, .string s1, .slice A1 m1 c1, .slice B1 q1 d1] 25)).heap.size (w.alloc (.cells #[.int .i64 3, .bool b1, .int .i64 n1, .string s1, .slice A1 m1 c1, .slice B1 q1 d1] 25))).alloc (by simp only [World.size_alloc]; omega) (.cells #[.int .i64 3, .bool b2, .int .i64 n2, .string s2, .slice A2 m2 c2, .slice B2 q2 d2] 25)).trans (hbel.mono ((Below.refl (w.alloc (.cells #[.int .i64 3, .bool b1, .int .i64 n1, .string s1, .slice A1 m1 c1, .slice B1 q1 d1] 25)).heap.size (w.alloc (.cells #[.int .i64 3, .bool b1, .int .i64 n1, .string s1, .slice A1 m1 c1, .slice B1 q1 d1] 25))).alloc (by simp only [World.size_alloc]; omega) (.cells #[.int .i64 3, .bool b2, .int .i64 n2, .string s2, .slice A2 m2 c2, .slice B2 q2 d2] 25)).size))
    have Bb := boxed (w := (w.alloc (.cells #[.int .i64 3, .bool b1, .int .i64 n1, .string s1, .slice A1 m1 c1, .slice B1 q1 d1] 25))) (W1 := ((w.alloc (.cells #[.int .i64 3, .bool b1, .int .i64 n1, .string s1, .slice A1 m1 c1, .slice B1 q1 d1] 25)).alloc (.cells #[.int .i64 3, .bool b2, .int .i64 n2, .string s2, .slice A2 m2 c2, .slice B2 q2 d2] 25))) rfl (wr := W) hbel
    simp only [World.size_alloc] at Bb
    exact ⟨Ba.1, Ba.2.1, Ba.2.2.1, Ba.2.2.2.1, Ba.2.2.2.2.1, Ba.2.2.2.2.2.1, Bb.1, Bb.2.1, Bb.2.2.1, Bb.2.2.2.1, Bb.2.2.2.2.1, Bb.2.2.2.2.2.1⟩)
  have LD := Lib.hid (show ∀ W : World, Below W0.heap.size W0 W → W.rangeAt w.heap.size 0 [.int .i64 3, .bool b1, .int .i64 n1, .string s1, .slice A1 m1 c1, .slice B1 q1 d1] ∧ W.rangeAt (w.heap.size + 1) 0 [.int .i64 3, .bool b2, .int .i64 n2, .string s2, .slice A2 m2 c2, .slice B2 q2 d2] from fun W hbel => by
    obtain ⟨a0, a1, a2, a3, a4, a5, b0, b1, b2, b3, b4, b5⟩ := KS.out W hbel
    exact ⟨range6 a0 a1 a2 a3 a4 a5, range6 b0 b1 b2 b3 b4 b5⟩)
  have RA := Lib.hid (show ∀ W : World, Below W0.heap.size W0 W → Calls Tryd.prog 29 #[.agg #[.int .i64 3, .bool b1, .int .i64 n1, .string s1, .slice A1 m1 c1, .slice B1 q1 d1]] W fun e w' => e = .returned (.int .i64 p) ∧ Below W.heap.size W w' from fun W hbel => by rw [← r1]; exact refRank_any (.mk 3 b1 n1 s1 m1 f1 q1 g1) _ W (ia.keep (KeepC.below (PW.out W hbel))) ka)
  have RB := Lib.hid (show ∀ W : World, Below W0.heap.size W0 W → Calls Tryd.prog 29 #[.agg #[.int .i64 3, .bool b2, .int .i64 n2, .string s2, .slice A2 m2 c2, .slice B2 q2 d2]] W fun e w' => e = .returned (.int .i64 p) ∧ Below W.heap.size W w' from fun W hbel => by rw [← r2]; exact refRank_any (.mk 3 b2 n2 s2 m2 f2 q2 g2) _ W (ib.keep (KeepC.below (PW.out W hbel))) kb)
  have HW := Lib.hid hW
  clear hW hz ia ib r1 r2 ka kb
  go_enter Tryd.func16, Tryd.ntmps16
  go_wp2_with fail
  rw [← HW.out]
  have PD := Lib.hid (below_drew (Below.refl W0.heap.size W0))
  refine wp_region_held_drew (S := fun W => Below W0.heap.size W0 W) (by kernel_rfl) (PD.out) (fun hHeld => ?_)
  refine wpAnyH_take (i := 0) (oi := { dst := some 7, op := Op.load 25 (Operand.tmp 2), type := 25, pos := "ref.go:49", after := #[], guard := none }) (v := .agg #[.int .i64 3, .bool b1, .int .i64 n1, .string s1, .slice A1 m1 c1, .slice B1 q1 d1]) rfl (by kernel_rfl) (by kernel_rfl) (by kernel_rfl) (fun _ _ _ h => h) (yieldsIf_load_mid (by kernel_rfl) 25 (.tmp 2) rfl (w.heap.size) (0) (by kernel_rfl) [.int .i64 3, .bool b1, .int .i64 n1, .string s1, .slice A1 m1 c1, .slice B1 q1 d1] _ (fun W hW => (LD.out W hW).1) Tryd.underlying25 rfl (by kernel_rfl)) (by with_reducible assumption) ?_
  simp only [Act.put]
  refine wpAnyH_take (i := 2) (oi := { dst := some 9, op := Op.load 25 (Operand.tmp 3), type := 25, pos := "ref.go:49", after := #[], guard := none }) (v := .agg #[.int .i64 3, .bool b2, .int .i64 n2, .string s2, .slice A2 m2 c2, .slice B2 q2 d2]) rfl (by kernel_rfl) (by kernel_rfl) (by kernel_rfl) (fun _ _ _ h => h) (yieldsIf_load_mid (by kernel_rfl) 25 (.tmp 3) rfl (w.heap.size + 1) (0) (by kernel_rfl) [.int .i64 3, .bool b2, .int .i64 n2, .string s2, .slice A2 m2 c2, .slice B2 q2 d2] _ (fun W hW => (LD.out W hW).2) Tryd.underlying25 rfl (by kernel_rfl)) (by with_reducible assumption) ?_
  simp only [Act.put]
  refine wpAnyH_ready (rs := [1]) (by kernel_rfl) (by simp) ?_
  refine AllReadyH.cons (o := { dst := some 8, op := Op.call { callee := Callee.value (Operand.func 29), args := #[Operand.tmp 7], argTypes := #[25] }, type := 3, pos := "ref.go:49", after := #[{ on := 0, ground := Ground.data }], guard := none }) rfl (fun K hK => ?_) AllReadyH.nil
  go_simp
  go_wp2_with (go_at_call 29; (with_reducible refine (RA.out _ PD.out).mono ?_); rintro e w1 ⟨rfl, l⟩; have hSw1 := PD.out.trans (l.mono PD.out.size); have P1 := Lib.hid hSw1; clear l)
  refine hK.out _ _ (by with_reducible assumption) (fun hHeld => ?_)
  clear hK K
  refine wpAnyH_ready (rs := [3]) (by kernel_rfl) (by simp) ?_
  refine AllReadyH.cons (o := { dst := some 10, op := Op.call { callee := Callee.value (Operand.func 29), args := #[Operand.tmp 9], argTypes := #[25] }, type := 3, pos := "ref.go:49", after := #[{ on := 2, ground := Ground.data }, { on := 1, ground := Ground.chain }], guard := none }) rfl (fun K hK => ?_) AllReadyH.nil
  go_simp
  go_wp2_with (go_at_call 29; (with_reducible refine (RB.out _ P1.out).mono ?_); rintro e w2 ⟨rfl, l⟩; have hSw2 := P1.out.trans (l.mono P1.out.size); have P2 := Lib.hid hSw2; clear l)
  refine hK.out _ _ (by with_reducible assumption) (fun hHeld => ?_)
  clear hK K
  refine wpAnyH_take (i := 4) (oi := { dst := some 11, op := Op.binOp BinOp.neq 3 (Operand.tmp 8) (Operand.tmp 10) 3, type := 4, pos := "ref.go:49", after := #[{ on := 1, ground := Ground.data }, { on := 3, ground := Ground.data }], guard := none }) (v := ?_) rfl (by kernel_rfl) (by kernel_rfl) (by kernel_rfl) (fun _ _ _ h => h) (Or.inl ⟨by kernel_rfl, ?_⟩) (by with_reducible assumption) ?_
  rotate_left 1
  · (intro w0 hSw; (try dsimp only at hSw); go_simp; (try with_reducible rfl))
  simp only [Act.put]
  refine wpAnyH_done (by kernel_rfl) ?_ _
  all_goals
    clear hHeld hSw1 hSw2
    obtain ⟨a0, _, a2, a3, _, _, b0, _, b2, b3, _, _⟩ := KS.out _ P2.out
    go_wp2_with fail
    refine (refBytes_any _ _ _).mono ?_
    rintro e w3 ⟨rfl, rfl⟩
    go_wp2_with fail
    go_ret
    exact ⟨rfl, PW.out _ P2.out⟩
end Go.Proofs.YtpmhefdalhohdaaDoor
