/- The document's Bounds: the walk. -/
import Derived.Test.YtehmdokcdnlcdaaGRefRect
import Derived.Test.YtehmdokcdnlcdaaGBounds
import Derived.Deep.DeepCutAuto
import Derived.Deep.CutRange
import Derived.Deep.MidRow
import Derived.Deep.RegionHeld3
namespace Go.Proofs.Ytehmdokcdnlcdaa
open Go.RowKit
set_option linter.unusedVariables false

set_option maxRecDepth 100000 in
set_option maxHeartbeats 8000000 in
theorem refBounds_any (A : Option Addr) (n c : Nat) (F : Nat → Pt) (w : World) (hP : Pts w A n F) (hnc : n ≤ c) (h0 : 0 < n) : Calls Try.prog 25 #[.slice A n c] w fun e w' => e = .returned (vR (boundsN F n)) ∧ Below w.heap.size w w' := by
  have hn := hP.1
  obtain ⟨b, o, rfl, hcl⟩ := hP.2 h0
  have hb : b < w.heap.size := cell_lt' (hcl 0 h0).1
  have HC := Lib.hid hcl
  obtain ⟨p0, p1⟩ := hcl 0 h0
  rw [Nat.zero_mul, Nat.add_zero] at p0 p1
  obtain ⟨f, hf⟩ : ∃ f, f = F 0 := ⟨_, rfl⟩
  rw [← hf] at p0 p1
  have HF := Lib.hid hf
  have T3 := Lib.hid (show ∀ W : World, Below w.heap.size w W → Below w.heap.size w W ∧ W.cell? ⟨b, o, none⟩ = some (.int .i64 f.x) ∧ W.cell? ⟨b, o + 1, none⟩ = some (.int .i64 f.y) from fun W l => ⟨l, kp' l hb p0, kp' l hb p1⟩)
  have hnI : (0 : Int) < n := by omega
  have hnI1 : (1 : Int) ≤ n := by omega
  clear hcl hP p0 p1 hf
  go_enter Try.func25, Try.ntmps25
  go_upto_region 1 with (fail)
  go_cut [3] (fun u W => u = .pointer (some ⟨w.heap.size + 1, 0, none⟩) ∧ RcAt W (w.heap.size + 1) (justR f) ∧ RcAt W w.heap.size zeroR ∧ Below w.heap.size w W)
  case first =>
    go_wp2_with fail
    go_region_held3 (fun W => Below w.heap.size w W ∧ W.cell? ⟨b, o, none⟩ = some (.int .i64 f.x) ∧ W.cell? ⟨b, o + 1, none⟩ = some (.int .i64 f.y)) (first | with_reducible assumption | ((with_reducible refine T3.out _ ?_); repeat (first | with_reducible assumption | with_reducible exact Below.refl _ _ | with_reducible refine Below.drew ?_ | with_reducible refine Below.alloc ?_ (by first | exact Nat.le_refl _ | (simp; done) | (simp; omega)) _ | with_reducible refine Below.setCell (p := _) ?_ (by first | exact Nat.le_refl _ | (simp; done) | (simp; omega)) _))) (fail)
    go_wp2_with fail
    go_meet
    have hA := RcAt.new (w.alloc (.cells #[.int .i64 0, .int .i64 0, .int .i64 0, .int .i64 0] 36)) (justR f)
    rw [World.size_alloc] at hA
    exact ⟨rfl, hA.keep (Below.refl (w.heap.size + 2) _).drew (by omega), ((RcAt.new w zeroR).keep ((Below.refl (w.heap.size + 1) _).alloc (by simp) _) (by omega)).keep (Below.refl (w.heap.size + 2) _).drew (by omega), (((Below.refl _ _).alloc (Nat.le_refl _) _).alloc (by simp) _).drew⟩
  case rest =>
    obtain ⟨rfl, hJ, hZ, hL⟩ := hcut
    go_wp2_with fail
    go_loopw [4] (fun i wr => ∃ k : Nat, i = .int .i64 k ∧ 1 ≤ k ∧ k ≤ n ∧ RcAt wr (w.heap.size + 1) (boundsN F k) ∧ RcAt wr w.heap.size zeroR ∧ Below w.heap.size w wr) (fun i _ => n - (intOf i).toNat)
    case atStart => exact ⟨1, rfl, by omega, by omega, by rw [bounds_one, ← HF.out]; exact hJ, hZ, hL⟩
    case round =>
      clear hJ hZ hL
      obtain ⟨k, rfl, hk1, hk, hJ, hZ, hL⟩ := hrel
      obtain ⟨wo, hwo⟩ : ∃ wo, wo = wr := ⟨_, rfl⟩
      subst hwo
      have HR := Lib.hid (And.intro hJ (And.intro hZ hL))
      by_cases hlt : k < n
      · obtain ⟨j, hj⟩ : ∃ j, j = boundsN F k := ⟨_, rfl⟩
        obtain ⟨h, hh⟩ : ∃ h, h = F k := ⟨_, rfl⟩
        obtain ⟨q0, q1⟩ := HC.out k hlt
        rw [← hh] at q0 q1
        have T4 := Lib.hid (show ∀ W : World, Below w.heap.size w W → Below w.heap.size w W ∧ W.cell? ⟨b, o + k * 2, none⟩ = some (.int .i64 h.x) ∧ W.cell? ⟨b, o + k * 2 + 1, none⟩ = some (.int .i64 h.y) from fun W l => ⟨l, kp' l hb q0, kp' l hb q1⟩)
        have HN := Lib.hid (show boundsN F (k + 1) = joinR j (justR h) by rw [bounds_next F k hk1, hj, hh])
        rw [← hj] at hJ
        obtain ⟨m, hm⟩ : ∃ m, m = joinR j (justR h) := ⟨_, rfl⟩
        rw [← hm] at HN
        have KJ := Lib.hid (show ∀ W : World, Calls Try.prog 31 #[.agg #[.int .i64 j.x0, .int .i64 j.y0, .int .i64 j.x1, .int .i64 j.y1], .agg #[.int .i64 h.x, .int .i64 h.y, .int .i64 h.x, .int .i64 h.y]] W fun e w' => e = .returned (.agg #[.int .i64 m.x0, .int .i64 m.y0, .int .i64 m.x1, .int .i64 m.y1]) ∧ Below W.heap.size W w' from fun W => by rw [hm]; exact refJoin_any j (justR h) W)
        have hkI : (k : Int) < n := by omega
        have PD := Lib.hid (show Below w.heap.size w wo.drew from hL.drew)
        have RJ := Lib.hid (show RcAt wo.drew (w.heap.size + 1) j ∧ RcAt wo.drew w.heap.size zeroR from ⟨hJ.keep (Below.refl wo.heap.size wo).drew hJ.lt, hZ.keep (Below.refl wo.heap.size wo).drew hZ.lt⟩)
        clear q0 q1 hh hj hm hJ hZ hL HR
        go_wp2_with fail
        obtain ⟨c0, c1, c2, c3⟩ := RJ.out.1.cells
        refine wp_region_held_drew (S := fun W => Below w.heap.size w W) (by kernel_rfl) (PD.out) (fun hHeld => ?_)
        refine wpAnyH_take (i := 1) (oi := { dst := some 29, op := Op.move (Operand.tmp 0), type := 26, pos := "ref.go:107", after := #[], guard := none }) (v := ?_) rfl (by kernel_rfl) (by kernel_rfl) (by kernel_rfl) (fun _ _ _ h => h) (Or.inl ⟨by kernel_rfl, ?_⟩) (by with_reducible assumption) ?_
        rotate_left 1
        · (intro w0 hSw; obtain ⟨_, q0, q1⟩ := T4.out _ hSw; (try dsimp only at hSw); go_simp; (try with_reducible rfl))
        simp only [Act.put]
        refine wpAnyH_take (i := 2) (oi := { dst := some 30, op := Op.move (Operand.tmp 4), type := 3, pos := "ref.go:107", after := #[], guard := none }) (v := ?_) rfl (by kernel_rfl) (by kernel_rfl) (by kernel_rfl) (fun _ _ _ h => h) (Or.inl ⟨by kernel_rfl, ?_⟩) (by with_reducible assumption) ?_
        rotate_left 1
        · (intro w0 hSw; obtain ⟨_, q0, q1⟩ := T4.out _ hSw; (try dsimp only at hSw); go_simp; (try with_reducible rfl))
        simp only [Act.put]
        refine wpAnyH_take (i := 6) (oi := { dst := some 34, op := Op.move (Operand.tmp 0), type := 26, pos := "ref.go:107", after := #[], guard := none }) (v := ?_) rfl (by kernel_rfl) (by kernel_rfl) (by kernel_rfl) (fun _ _ _ h => h) (Or.inl ⟨by kernel_rfl, ?_⟩) (by with_reducible assumption) ?_
        rotate_left 1
        · (intro w0 hSw; obtain ⟨_, q0, q1⟩ := T4.out _ hSw; (try dsimp only at hSw); go_simp; (try with_reducible rfl))
        simp only [Act.put]
        refine wpAnyH_take (i := 7) (oi := { dst := some 35, op := Op.move (Operand.tmp 4), type := 3, pos := "ref.go:107", after := #[], guard := none }) (v := ?_) rfl (by kernel_rfl) (by kernel_rfl) (by kernel_rfl) (fun _ _ _ h => h) (Or.inl ⟨by kernel_rfl, ?_⟩) (by with_reducible assumption) ?_
        rotate_left 1
        · (intro w0 hSw; obtain ⟨_, q0, q1⟩ := T4.out _ hSw; (try dsimp only at hSw); go_simp; (try with_reducible rfl))
        simp only [Act.put]
        refine wpAnyH_take (i := 11) (oi := { dst := some 39, op := Op.move (Operand.tmp 0), type := 26, pos := "ref.go:107", after := #[], guard := none }) (v := ?_) rfl (by kernel_rfl) (by kernel_rfl) (by kernel_rfl) (fun _ _ _ h => h) (Or.inl ⟨by kernel_rfl, ?_⟩) (by with_reducible assumption) ?_
        rotate_left 1
        · (intro w0 hSw; obtain ⟨_, q0, q1⟩ := T4.out _ hSw; (try dsimp only at hSw); go_simp; (try with_reducible rfl))
        simp only [Act.put]
        refine wpAnyH_take (i := 12) (oi := { dst := some 40, op := Op.move (Operand.tmp 4), type := 3, pos := "ref.go:107", after := #[], guard := none }) (v := ?_) rfl (by kernel_rfl) (by kernel_rfl) (by kernel_rfl) (fun _ _ _ h => h) (Or.inl ⟨by kernel_rfl, ?_⟩) (by with_reducible assumption) ?_
        rotate_left 1
        · (intro w0 hSw; obtain ⟨_, q0, q1⟩ := T4.out _ hSw; (try dsimp only at hSw); go_simp; (try with_reducible rfl))
        simp only [Act.put]
        refine wpAnyH_take (i := 16) (oi := { dst := some 44, op := Op.move (Operand.tmp 0), type := 26, pos := "ref.go:107", after := #[], guard := none }) (v := ?_) rfl (by kernel_rfl) (by kernel_rfl) (by kernel_rfl) (fun _ _ _ h => h) (Or.inl ⟨by kernel_rfl, ?_⟩) (by with_reducible assumption) ?_
        rotate_left 1
        · (intro w0 hSw; obtain ⟨_, q0, q1⟩ := T4.out _ hSw; (try dsimp only at hSw); go_simp; (try with_reducible rfl))
        simp only [Act.put]
        refine wpAnyH_take (i := 17) (oi := { dst := some 45, op := Op.move (Operand.tmp 4), type := 3, pos := "ref.go:107", after := #[], guard := none }) (v := ?_) rfl (by kernel_rfl) (by kernel_rfl) (by kernel_rfl) (fun _ _ _ h => h) (Or.inl ⟨by kernel_rfl, ?_⟩) (by with_reducible assumption) ?_
        rotate_left 1
        · (intro w0 hSw; obtain ⟨_, q0, q1⟩ := T4.out _ hSw; (try dsimp only at hSw); go_simp; (try with_reducible rfl))
        simp only [Act.put]
        refine wpAnyH_take (i := 3) (oi := { dst := some 31, op := Op.indexAddr 26 (Operand.tmp 29) (Operand.tmp 30), type := 0, pos := "ref.go:107", after := #[{ on := 1, ground := Ground.data }, { on := 2, ground := Ground.data }], guard := none }) (v := ?_) rfl (by kernel_rfl) (by kernel_rfl) (by kernel_rfl) (fun _ _ _ h => h) (Or.inl ⟨by kernel_rfl, ?_⟩) (by with_reducible assumption) ?_
        rotate_left 1
        · (intro w0 hSw; obtain ⟨_, q0, q1⟩ := T4.out _ hSw; (try dsimp only at hSw); go_simp; (try with_reducible rfl))
        simp only [Act.put]
        refine wpAnyH_take (i := 8) (oi := { dst := some 36, op := Op.indexAddr 26 (Operand.tmp 34) (Operand.tmp 35), type := 0, pos := "ref.go:107", after := #[{ on := 6, ground := Ground.data }, { on := 7, ground := Ground.data }], guard := none }) (v := ?_) rfl (by kernel_rfl) (by kernel_rfl) (by kernel_rfl) (fun _ _ _ h => h) (Or.inl ⟨by kernel_rfl, ?_⟩) (by with_reducible assumption) ?_
        rotate_left 1
        · (intro w0 hSw; obtain ⟨_, q0, q1⟩ := T4.out _ hSw; (try dsimp only at hSw); go_simp; (try with_reducible rfl))
        simp only [Act.put]
        refine wpAnyH_take (i := 13) (oi := { dst := some 41, op := Op.indexAddr 26 (Operand.tmp 39) (Operand.tmp 40), type := 0, pos := "ref.go:107", after := #[{ on := 11, ground := Ground.data }, { on := 12, ground := Ground.data }], guard := none }) (v := ?_) rfl (by kernel_rfl) (by kernel_rfl) (by kernel_rfl) (fun _ _ _ h => h) (Or.inl ⟨by kernel_rfl, ?_⟩) (by with_reducible assumption) ?_
        rotate_left 1
        · (intro w0 hSw; obtain ⟨_, q0, q1⟩ := T4.out _ hSw; (try dsimp only at hSw); go_simp; (try with_reducible rfl))
        simp only [Act.put]
        refine wpAnyH_take (i := 18) (oi := { dst := some 46, op := Op.indexAddr 26 (Operand.tmp 44) (Operand.tmp 45), type := 0, pos := "ref.go:107", after := #[{ on := 16, ground := Ground.data }, { on := 17, ground := Ground.data }], guard := none }) (v := ?_) rfl (by kernel_rfl) (by kernel_rfl) (by kernel_rfl) (fun _ _ _ h => h) (Or.inl ⟨by kernel_rfl, ?_⟩) (by with_reducible assumption) ?_
        rotate_left 1
        · (intro w0 hSw; obtain ⟨_, q0, q1⟩ := T4.out _ hSw; (try dsimp only at hSw); go_simp; (try with_reducible rfl))
        simp only [Act.put]
        refine wpAnyH_take (i := 4) (oi := { dst := some 32, op := Op.fieldAddr 23 (Operand.tmp 31) 0, type := 0, pos := "ref.go:107", after := #[{ on := 3, ground := Ground.data }], guard := none }) (v := ?_) rfl (by kernel_rfl) (by kernel_rfl) (by kernel_rfl) (fun _ _ _ h => h) (Or.inl ⟨by kernel_rfl, ?_⟩) (by with_reducible assumption) ?_
        rotate_left 1
        · (intro w0 hSw; obtain ⟨_, q0, q1⟩ := T4.out _ hSw; (try dsimp only at hSw); go_simp; (try with_reducible rfl))
        simp only [Act.put]
        refine wpAnyH_take (i := 9) (oi := { dst := some 37, op := Op.fieldAddr 23 (Operand.tmp 36) 0, type := 0, pos := "ref.go:107", after := #[{ on := 8, ground := Ground.data }], guard := none }) (v := ?_) rfl (by kernel_rfl) (by kernel_rfl) (by kernel_rfl) (fun _ _ _ h => h) (Or.inl ⟨by kernel_rfl, ?_⟩) (by with_reducible assumption) ?_
        rotate_left 1
        · (intro w0 hSw; obtain ⟨_, q0, q1⟩ := T4.out _ hSw; (try dsimp only at hSw); go_simp; (try with_reducible rfl))
        simp only [Act.put]
        refine wpAnyH_take (i := 14) (oi := { dst := some 42, op := Op.fieldAddr 23 (Operand.tmp 41) 1, type := 0, pos := "ref.go:107", after := #[{ on := 13, ground := Ground.data }], guard := none }) (v := ?_) rfl (by kernel_rfl) (by kernel_rfl) (by kernel_rfl) (fun _ _ _ h => h) (Or.inl ⟨by kernel_rfl, ?_⟩) (by with_reducible assumption) ?_
        rotate_left 1
        · (intro w0 hSw; obtain ⟨_, q0, q1⟩ := T4.out _ hSw; (try dsimp only at hSw); go_simp; (try with_reducible rfl))
        simp only [Act.put]
        refine wpAnyH_take (i := 19) (oi := { dst := some 47, op := Op.fieldAddr 23 (Operand.tmp 46) 1, type := 0, pos := "ref.go:107", after := #[{ on := 18, ground := Ground.data }], guard := none }) (v := ?_) rfl (by kernel_rfl) (by kernel_rfl) (by kernel_rfl) (fun _ _ _ h => h) (Or.inl ⟨by kernel_rfl, ?_⟩) (by with_reducible assumption) ?_
        rotate_left 1
        · (intro w0 hSw; obtain ⟨_, q0, q1⟩ := T4.out _ hSw; (try dsimp only at hSw); go_simp; (try with_reducible rfl))
        simp only [Act.put]
        refine wpAnyH_take (i := 5) (oi := { dst := some 33, op := Op.load 2 (Operand.tmp 32), type := 2, pos := "ref.go:107", after := #[{ on := 4, ground := Ground.data }], guard := none }) (v := ?_) rfl (by kernel_rfl) (by kernel_rfl) (by kernel_rfl) (fun _ _ _ h => h) (Or.inl ⟨by kernel_rfl, ?_⟩) (by with_reducible assumption) ?_
        rotate_left 1
        · (intro w0 hSw; obtain ⟨_, q0, q1⟩ := T4.out _ hSw; (try dsimp only at hSw); go_simp; (try with_reducible rfl))
        simp only [Act.put]
        refine wpAnyH_take (i := 10) (oi := { dst := some 38, op := Op.load 2 (Operand.tmp 37), type := 2, pos := "ref.go:107", after := #[{ on := 9, ground := Ground.data }], guard := none }) (v := ?_) rfl (by kernel_rfl) (by kernel_rfl) (by kernel_rfl) (fun _ _ _ h => h) (Or.inl ⟨by kernel_rfl, ?_⟩) (by with_reducible assumption) ?_
        rotate_left 1
        · (intro w0 hSw; obtain ⟨_, q0, q1⟩ := T4.out _ hSw; (try dsimp only at hSw); go_simp; (try with_reducible rfl))
        simp only [Act.put]
        refine wpAnyH_take (i := 15) (oi := { dst := some 43, op := Op.load 2 (Operand.tmp 42), type := 2, pos := "ref.go:107", after := #[{ on := 14, ground := Ground.data }], guard := none }) (v := ?_) rfl (by kernel_rfl) (by kernel_rfl) (by kernel_rfl) (fun _ _ _ h => h) (Or.inl ⟨by kernel_rfl, ?_⟩) (by with_reducible assumption) ?_
        rotate_left 1
        · (intro w0 hSw; obtain ⟨_, q0, q1⟩ := T4.out _ hSw; (try dsimp only at hSw); go_simp; (try with_reducible rfl))
        simp only [Act.put]
        refine wpAnyH_take (i := 20) (oi := { dst := some 48, op := Op.load 2 (Operand.tmp 47), type := 2, pos := "ref.go:107", after := #[{ on := 19, ground := Ground.data }], guard := none }) (v := ?_) rfl (by kernel_rfl) (by kernel_rfl) (by kernel_rfl) (fun _ _ _ h => h) (Or.inl ⟨by kernel_rfl, ?_⟩) (by with_reducible assumption) ?_
        rotate_left 1
        · (intro w0 hSw; obtain ⟨_, q0, q1⟩ := T4.out _ hSw; (try dsimp only at hSw); go_simp; (try with_reducible rfl))
        simp only [Act.put]
        refine wpAnyH_take (i := 21) (oi := { dst := some 49, op := Op.build 36 #[(0, Operand.tmp 33), (2, Operand.tmp 38), (1, Operand.tmp 43), (3, Operand.tmp 48)], type := 36, pos := "ref.go:107", after := #[{ on := 5, ground := Ground.data }, { on := 10, ground := Ground.data }, { on := 15, ground := Ground.data }, { on := 20, ground := Ground.data }], guard := none }) (v := ?_) rfl (by kernel_rfl) (by kernel_rfl) (by kernel_rfl) (fun _ _ _ h => h) (Or.inl ⟨by kernel_rfl, ?_⟩) (by with_reducible assumption) ?_
        rotate_left 1
        · (intro w0 hSw; obtain ⟨_, q0, q1⟩ := T4.out _ hSw; (try dsimp only at hSw); go_simp; (try with_reducible rfl))
        simp only [Act.put]
        refine wpAnyH_ready (rs := [0]) (by kernel_rfl) (by simp) ?_
        refine AllReadyH.cons (o := { dst := some 28, op := Op.load 36 (Operand.tmp 3), type := 36, pos := "ref.go:107", after := #[], guard := none }) rfl (fun K hK => ?_) AllReadyH.nil
        go_simp
        refine hK.out _ _ (by with_reducible assumption) (fun hHeld => ?_)
        clear hK K
        refine wpAnyH_ready (rs := [22]) (by kernel_rfl) (by simp) ?_
        refine AllReadyH.cons (o := { dst := some 50, op := Op.call { callee := Callee.value (Operand.func 31), args := #[Operand.tmp 28, Operand.tmp 49], argTypes := #[36, 36] }, type := 36, pos := "ref.go:107", after := #[{ on := 0, ground := Ground.data }, { on := 21, ground := Ground.data }], guard := none }) rfl (fun K hK => ?_) AllReadyH.nil
        go_simp
        go_wp2_with (go_at_call 31; (with_reducible refine (KJ.out _).mono ?_); rintro e w' ⟨rfl, l1⟩; have hS := PD.out.trans (l1.mono PD.out.size); have HS2 := Lib.hid hS; have HJ2 := Lib.hid (RJ.out.1.keep l1 RJ.out.1.lt); have HZ2 := Lib.hid (RJ.out.2.keep l1 RJ.out.2.lt); have hz2 := HJ2.out.lt; obtain ⟨f0, f1, f2, f3⟩ := HJ2.out.free; obtain ⟨d0, d1, d2, d3⟩ := HJ2.out.cells; have hS4 := below_four hS (show w.heap.size ≤ w.heap.size + 1 by omega) m; clear l1)
        refine hK.out _ _ (by with_reducible assumption) (fun hHeld => ?_)
        clear hK K
        refine wpAnyH_ready (rs := [23]) (by kernel_rfl) (by simp) ?_
        refine AllReadyH.cons (o := { dst := none, op := Op.store 36 (Operand.tmp 3) (Operand.tmp 50), type := 0, pos := "ref.go:107", after := #[{ on := 22, ground := Ground.data }, { on := 22, ground := Ground.chain }, { on := 0, ground := Ground.phase }, { on := 1, ground := Ground.phase }, { on := 2, ground := Ground.phase }, { on := 3, ground := Ground.phase }, { on := 4, ground := Ground.phase }, { on := 5, ground := Ground.phase }, { on := 6, ground := Ground.phase }, { on := 7, ground := Ground.phase }, { on := 8, ground := Ground.phase }, { on := 9, ground := Ground.phase }, { on := 10, ground := Ground.phase }, { on := 11, ground := Ground.phase }, { on := 12, ground := Ground.phase }, { on := 13, ground := Ground.phase }, { on := 14, ground := Ground.phase }, { on := 15, ground := Ground.phase }, { on := 16, ground := Ground.phase }, { on := 17, ground := Ground.phase }, { on := 18, ground := Ground.phase }, { on := 19, ground := Ground.phase }, { on := 20, ground := Ground.phase }, { on := 21, ground := Ground.phase }, { on := 22, ground := Ground.phase }], guard := none }) rfl (fun K hK => ?_) AllReadyH.nil
        go_simp
        refine hK.out _ _ (by with_reducible assumption) (fun hHeld => ?_)
        clear hK K
        refine wpAnyH_done (by kernel_rfl) ?_ _
        clear hHeld hS hS4 f0 f1 f2 f3 d0 d1 d2 d3 c0 c1 c2 c3
        go_wp2_with fail
        go_roundw
        case rel => exact ⟨k + 1, by go_num, by omega, by omega, by rw [HN.out]; exact HJ2.out.four m, HZ2.out.keep (below_four (Below.refl (w.heap.size + 1) w') (Nat.le_refl _) m) (by omega), below_four HS2.out (by omega) m⟩
        case measure => simp [intOf]; omega
      · obtain rfl : k = n := by omega
        obtain ⟨c0, c1, c2, c3⟩ := hJ.cells
        obtain ⟨f0, f1, f2, f3⟩ := hZ.free
        obtain ⟨z0, z1, z2, z3⟩ := hZ.cells
        have hz := hZ.lt
        have hW := hZ.four (boundsN F k)
        have lW := below_four hL (Nat.le_refl _) (boundsN F k)
        have HX := Lib.hid (And.intro hW lW)
        clear hW lW hZ hL hJ
        obtain ⟨g, hg⟩ : ∃ g, g = boundsN F k := ⟨_, rfl⟩
        rw [← hg] at c0 c1 c2 c3 HX
        have HG := Lib.hid hg
        clear hg HR
        go_wp2_with fail
        obtain ⟨hW, lW⟩ := HX.out
        have hz2 := hW.lt
        generalize ((((wo.setCell ⟨w.heap.size, 0, none⟩ (.int .i64 g.x0)).setCell ⟨w.heap.size, 1, none⟩ (.int .i64 g.y0)).setCell ⟨w.heap.size, 2, none⟩ (.int .i64 g.x1)).setCell ⟨w.heap.size, 3, none⟩ (.int .i64 g.y1)) = W at hW lW hz2 ⊢
        obtain ⟨d0, d1, d2, d3⟩ := hW.cells
        exact bodyPost_ret (v := .agg #[.int .i64 g.x0, .int .i64 g.y0, .int .i64 g.x1, .int .i64 g.y1]) (by simp [results, Try.results25, go_sem, d0, d1, d2, d3]) rfl ⟨by rw [HG.out], lW⟩
end Go.Proofs.Ytehmdokcdnlcdaa
