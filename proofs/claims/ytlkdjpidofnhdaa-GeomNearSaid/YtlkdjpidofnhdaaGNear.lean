/- GeomNear: the walk up to the loop. (Written by wip/tools/gennear.py.) -/
import Derived.Test.YtlkdjpidofnhdaaGNearS
namespace Go.Proofs.Ytlkdjpidofnhdaa
open Go.RowKit
set_option linter.unusedVariables false

set_option maxRecDepth 100000 in
set_option maxHeartbeats 16000000 in
theorem near_walk0 (r s : Rc) (p : Pt) (w : World) (hr : mayRB r = true) (hs : mayRB s = true) (hp : mayB p = true) : Calls Try.prog 7 #[vR r, vR s, .agg #[.int .i64 p.x, .int .i64 p.y]] w fun e w' => e = .returned (.bool true) ∧ Below w.heap.size w w' := by
  have k1 := fun W => mayRect_any r W
  have k2 := fun W => mayRect_any s W
  have k3 := fun W => may_any p W
  rw [hr] at k1
  rw [hs] at k2
  rw [hp] at k3
  have k4 := fun W => near_any r p W
  obtain ⟨d, hd⟩ : ∃ d, d = nearI r p := ⟨_, rfl⟩
  rw [← hd] at k4
  have K1 := Lib.hid k1
  have K2 := Lib.hid k2
  have K3 := Lib.hid k3
  have K4 := Lib.hid k4
  have K9 := Lib.hid at_any
  have HD := Lib.hid hd
  have HM := Lib.hid (show MayR r ∧ MayR s ∧ MayP p from ⟨of_decide_eq_true hr, of_decide_eq_true hs, of_decide_eq_true hp⟩)
  clear k1 k2 k3 k4 hr hs hp hd
  go_enter Try.func7, Try.ntmps7
  go_wp2_with fail
  have hS := n10_start w r s p
  generalize (((w.alloc (.cells #[.int .i64 r.x0, .int .i64 r.y0, .int .i64 r.x1, .int .i64 r.y1] 36)).alloc (.cells #[.int .i64 s.x0, .int .i64 s.y0, .int .i64 s.x1, .int .i64 s.y1] 36)).alloc (.cells #[.int .i64 p.x, .int .i64 p.y] 23)) = B at hS ⊢
  (with_reducible refine (K1.out _).mono ?_); rintro _ w1 ⟨rfl, l1⟩
  have hS1 := n10_keep l1 hS
  clear l1 hS
  obtain ⟨_, _, _, _, _, _, _, _, _, _, _⟩ := (id hS1)
  go_wp2_with fail
  (with_reducible refine (K2.out _).mono ?_); rintro _ w2 ⟨rfl, l2⟩
  have hS2 := n10_keep l2 hS1
  clear l2
  clear hS1
  obtain ⟨_, _, _, _, _, _, _, _, _, _, _⟩ := (id hS2)
  go_wp2_with fail
  (with_reducible refine (K3.out _).mono ?_); rintro _ w3 ⟨rfl, l3⟩
  have hS3 := n10_keep l3 hS2
  clear l3 hS2
  obtain ⟨_, _, _, _, _, _, _, _, _, _, _⟩ := (id hS3)
  go_wp2_with fail
  (with_reducible refine (K4.out _).mono ?_); rintro _ w4 ⟨rfl, l4⟩
  have hS4 := n10_keep l4 hS3
  have SB := Lib.hid hS4
  clear l4 hS3 hS4
  go_upto_region 4 with (fail)
  go_cut [8] (fun u W => NearC w r s p u W)
  case first =>
    have hBs : w.heap.size + 1 + 1 < w4.heap.size := cell_lt' SB.out.2.2.2.2.2.2.2.2.2.2
    go_wp2_with fail
    go_region_held3 (fun W => Below w.heap.size w W ∧ W.cell? ⟨w.heap.size, 0, none⟩ = some (.int .i64 r.x0) ∧ W.cell? ⟨w.heap.size, 1, none⟩ = some (.int .i64 r.y0) ∧ W.cell? ⟨w.heap.size, 2, none⟩ = some (.int .i64 r.x1) ∧ W.cell? ⟨w.heap.size, 3, none⟩ = some (.int .i64 r.y1) ∧ W.cell? ⟨w.heap.size + 1, 0, none⟩ = some (.int .i64 s.x0) ∧ W.cell? ⟨w.heap.size + 1, 1, none⟩ = some (.int .i64 s.y0) ∧ W.cell? ⟨w.heap.size + 1, 2, none⟩ = some (.int .i64 s.x1) ∧ W.cell? ⟨w.heap.size + 1, 3, none⟩ = some (.int .i64 s.y1) ∧ W.cell? ⟨w.heap.size + 1 + 1, 0, none⟩ = some (.int .i64 p.x) ∧ W.cell? ⟨w.heap.size + 1 + 1, 1, none⟩ = some (.int .i64 p.y)) (repeat (first | with_reducible assumption | with_reducible exact SB.out | with_reducible refine n10_alloc (r := r) (s := s) (p := p) _ ?_ | with_reducible refine n10_drew (r := r) (s := s) (p := p) ?_ | with_reducible refine n10_put (r := r) (s := s) (p := p) ?_ (by omega))) ((go_at_call 38; (with_reducible refine (K9.out _ _ _).mono ?_); rintro e w' ⟨rfl, l0⟩; (first | (with_reducible have l1 := z8_drew l0) | (have l1 := l0)); (try (with_reducible have Z1 := z8_new l1)); (try (with_reducible have Z5 := z8_old l1 (by with_reducible assumption))); (try (obtain ⟨_, ⟨_, _⟩, ⟨_, _, _, _, _, _, _, _⟩, _, _, _, _, _, _, _, _⟩ := (id Z1))); (try (obtain ⟨_, ⟨_, _⟩, ⟨_, _, _, _, _, _, _, _⟩, _, _, _, _, _, _, _, _⟩ := (id Z5))); (have q9 := l1.size); (try simp only [World.size_alloc] at q9); have hS := n10_keep (w := w) (r := r) (s := s) (p := p) l1 (by repeat (first | with_reducible assumption | with_reducible exact SB.out | with_reducible refine n10_alloc (r := r) (s := s) (p := p) _ ?_ | with_reducible refine n10_drew (r := r) (s := s) (p := p) ?_ | with_reducible refine n10_put (r := r) (s := s) (p := p) ?_ (by omega))); clear l1 l0))
    all_goals go_wp2_with fail
    all_goals go_meet
    all_goals refine ⟨_, rfl, ?_, ?_⟩
    all_goals first | (repeat (first | with_reducible assumption | with_reducible exact SB.out | with_reducible refine n10_alloc (r := r) (s := s) (p := p) _ ?_ | with_reducible refine n10_drew (r := r) (s := s) (p := p) ?_ | with_reducible refine n10_put (r := r) (s := s) (p := p) ?_ (by omega)); done) | skip
    all_goals (refine ⟨?_, ?_, ?_, ?_, ?_, ?_, ?_, ?_⟩ <;> go_simp)
  case rest =>
    obtain ⟨g, rfl, hS, hG⟩ := hcut
    have hC := corAt_of hG
    clear hG
    go_wp2_with fail
    go_loopw [9] (fun i wr => (∃ k : Nat, k ≤ 4 ∧ i = .int .i64 k) ∧ (Below w.heap.size w wr ∧ wr.cell? ⟨w.heap.size, 0, none⟩ = some (.int .i64 r.x0) ∧ wr.cell? ⟨w.heap.size, 1, none⟩ = some (.int .i64 r.y0) ∧ wr.cell? ⟨w.heap.size, 2, none⟩ = some (.int .i64 r.x1) ∧ wr.cell? ⟨w.heap.size, 3, none⟩ = some (.int .i64 r.y1) ∧ wr.cell? ⟨w.heap.size + 1, 0, none⟩ = some (.int .i64 s.x0) ∧ wr.cell? ⟨w.heap.size + 1, 1, none⟩ = some (.int .i64 s.y0) ∧ wr.cell? ⟨w.heap.size + 1, 2, none⟩ = some (.int .i64 s.x1) ∧ wr.cell? ⟨w.heap.size + 1, 3, none⟩ = some (.int .i64 s.y1) ∧ wr.cell? ⟨w.heap.size + 1 + 1, 0, none⟩ = some (.int .i64 p.x) ∧ wr.cell? ⟨w.heap.size + 1 + 1, 1, none⟩ = some (.int .i64 p.y)) ∧ CorAt wr g s) (fun i _ => 4 - (intOf i).toNat)
    case atStart => exact ⟨⟨0, by omega, rfl⟩, hS, hC⟩
    case round =>
      clear hS hC
      obtain ⟨⟨k, hk, rfl⟩, hSr, hCr⟩ := hrel
      obtain ⟨wo, hwo⟩ : ∃ wo, wo = wr := ⟨_, rfl⟩
      subst hwo
      have HR := Lib.hid (And.intro hSr hCr)
      by_cases hlt : k < 4
      · obtain ⟨c, hc⟩ : ∃ c, c = corF s k := ⟨_, rfl⟩
        obtain ⟨c0, c1⟩ := hCr k hlt
        rw [← hc] at c0 c1
        have HC := Lib.hid (show MayP c by rw [hc]; exact corF_may HM.out.2.1 k)
        obtain ⟨_, a0, a1, a2, a3, _, _, _, _, a4, a5⟩ := hSr
        have SE := Lib.hid (show Below wo.heap.size wo wo ∧ wo.cell? ⟨w.heap.size, 0, none⟩ = some (.int .i64 r.x0) ∧ wo.cell? ⟨w.heap.size, 1, none⟩ = some (.int .i64 r.y0) ∧ wo.cell? ⟨w.heap.size, 2, none⟩ = some (.int .i64 r.x1) ∧ wo.cell? ⟨w.heap.size, 3, none⟩ = some (.int .i64 r.y1) ∧ wo.cell? ⟨w.heap.size + 1 + 1, 0, none⟩ = some (.int .i64 p.x) ∧ wo.cell? ⟨w.heap.size + 1 + 1, 1, none⟩ = some (.int .i64 p.y) ∧ wo.cell? ⟨g, k * 2, none⟩ = some (.int .i64 c.x) ∧ wo.cell? ⟨g, k * 2 + 1, none⟩ = some (.int .i64 c.y) from ⟨Below.refl _ _, a0, a1, a2, a3, a4, a5, c0, c1⟩)
        clear a0 a1 a2 a3 a4 a5 c0 c1 hc hCr
        have kh := fun W => holds_any r c W
        have kd := fun W => dist_any c p W
        cases hh : ovB r (justR c)
        · rw [hh] at kh
          have KH := Lib.hid kh
          clear kh kd hh
          go_wp2_with fail
          refine wp_region_held_drew (S := fun W => Below wo.heap.size wo W ∧ W.cell? ⟨w.heap.size, 0, none⟩ = some (.int .i64 r.x0) ∧ W.cell? ⟨w.heap.size, 1, none⟩ = some (.int .i64 r.y0) ∧ W.cell? ⟨w.heap.size, 2, none⟩ = some (.int .i64 r.x1) ∧ W.cell? ⟨w.heap.size, 3, none⟩ = some (.int .i64 r.y1) ∧ W.cell? ⟨w.heap.size + 1 + 1, 0, none⟩ = some (.int .i64 p.x) ∧ W.cell? ⟨w.heap.size + 1 + 1, 1, none⟩ = some (.int .i64 p.y) ∧ W.cell? ⟨g, k * 2, none⟩ = some (.int .i64 c.x) ∧ W.cell? ⟨g, k * 2 + 1, none⟩ = some (.int .i64 c.y)) (by kernel_rfl) (e8_drew SE.out) (fun hHeld => ?_)
          refine wpAnyH_take (i := 0) (oi := { dst := some 52, op := Op.load 36 (Operand.tmp 3), type := 36, pos := "outright.go:24", after := #[], guard := none }) (v := ?_) rfl (by kernel_rfl) (by kernel_rfl) (by kernel_rfl) (fun _ _ _ h => h) (Or.inl ⟨by rfl, ?_⟩) (by with_reducible assumption) ?_
          rotate_left 1
          · (intro w0 hSw; (try dsimp only at hSw); go_simp; (try with_reducible rfl))
          simp only [Act.put]
          refine wpAnyH_take (i := 1) (oi := { dst := some 53, op := Op.move (Operand.tmp 9), type := 3, pos := "outright.go:24", after := #[], guard := none }) (v := ?_) rfl (by kernel_rfl) (by kernel_rfl) (by kernel_rfl) (fun _ _ _ h => h) (Or.inl ⟨by rfl, ?_⟩) (by with_reducible assumption) ?_
          rotate_left 1
          · (intro w0 hSw; (try dsimp only at hSw); go_simp; (try with_reducible rfl))
          simp only [Act.put]
          refine wpAnyH_take (i := 2) (oi := { dst := some 54, op := Op.indexAddr 24 (Operand.tmp 8) (Operand.tmp 53), type := 0, pos := "outright.go:24", after := #[{ on := 1, ground := Ground.data }], guard := none }) (v := ?_) rfl (by kernel_rfl) (by kernel_rfl) (by kernel_rfl) (fun _ _ _ h => h) (Or.inl ⟨by rfl, ?_⟩) (by with_reducible assumption) ?_
          rotate_left 1
          · (intro w0 hSw; (try dsimp only at hSw); go_simp; (try with_reducible rfl))
          simp only [Act.put]
          refine wpAnyH_take (i := 3) (oi := { dst := some 55, op := Op.load 23 (Operand.tmp 54), type := 23, pos := "outright.go:24", after := #[{ on := 2, ground := Ground.data }], guard := none }) (v := ?_) rfl (by kernel_rfl) (by kernel_rfl) (by kernel_rfl) (fun _ _ _ h => h) (Or.inl ⟨by rfl, ?_⟩) (by with_reducible assumption) ?_
          rotate_left 1
          · (intro w0 hSw; (try dsimp only at hSw); go_simp; (try with_reducible rfl))
          simp only [Act.put]
          refine wpAnyH_ready (rs := [4]) (by kernel_rfl) (by simp) ?_
          refine AllReadyH.cons (o := { dst := some 56, op := Op.call { callee := Callee.value (Operand.func 34), args := #[Operand.tmp 52, Operand.tmp 55], argTypes := #[36, 23] }, type := 4, pos := "outright.go:24", after := #[{ on := 0, ground := Ground.data }, { on := 3, ground := Ground.data }], guard := none }) rfl (fun K hK => ?_) AllReadyH.nil
          go_simp
          go_wp2_with (go_at_call 34; (with_reducible refine (KH.out _).mono ?_); rintro _ w' ⟨rfl, l0⟩; have hS := e8_keep (wo := wo) (b := w.heap.size) (g := g) (k := k) (r := r) (p := p) (c := c) l0 (by repeat (first | with_reducible assumption | with_reducible exact SE.out | with_reducible refine e8_drew (wo := wo) (b := w.heap.size) (g := g) (k := k) (r := r) (p := p) (c := c) ?_)); clear l0)
          refine hK.out _ _ (by with_reducible assumption) (fun hHeld => ?_)
          clear hK K
          refine wpAnyH_take (i := 5) (oi := { dst := some 57, op := Op.move (Operand.tmp 56), type := 4, pos := "outright.go:24", after := #[{ on := 4, ground := Ground.data }, { on := 4, ground := Ground.chain }], guard := none }) (v := ?_) rfl (by kernel_rfl) (by kernel_rfl) (by kernel_rfl) (fun _ _ _ h => h) (Or.inl ⟨by rfl, ?_⟩) (by with_reducible assumption) ?_
          rotate_left 1
          · (intro w0 hSw; (try dsimp only at hSw); go_simp; (try with_reducible rfl))
          simp only [Act.put]
          refine wpAnyH_take (i := 6) (oi := { dst := some 58, op := Op.move (Operand.tmp 7), type := 43, pos := "outright.go:24", after := #[{ on := 5, ground := Ground.guard }], guard := some (5, true) }) (v := undef) rfl (by kernel_rfl) (by kernel_rfl) (by kernel_rfl) (fun _ _ _ h => h) (Or.inr ⟨by kernel_rfl, rfl⟩) (by with_reducible assumption) ?_
          simp only [Act.put]
          refine wpAnyH_take (i := 7) (oi := { dst := some 59, op := Op.move (Operand.tmp 9), type := 3, pos := "outright.go:24", after := #[{ on := 5, ground := Ground.guard }], guard := some (5, true) }) (v := undef) rfl (by kernel_rfl) (by kernel_rfl) (by kernel_rfl) (fun _ _ _ h => h) (Or.inr ⟨by kernel_rfl, rfl⟩) (by with_reducible assumption) ?_
          simp only [Act.put]
          refine wpAnyH_take (i := 10) (oi := { dst := some 62, op := Op.load 23 (Operand.tmp 5), type := 23, pos := "outright.go:24", after := #[{ on := 5, ground := Ground.guard }], guard := some (5, true) }) (v := undef) rfl (by kernel_rfl) (by kernel_rfl) (by kernel_rfl) (fun _ _ _ h => h) (Or.inr ⟨by kernel_rfl, rfl⟩) (by with_reducible assumption) ?_
          simp only [Act.put]
          refine wpAnyH_take (i := 8) (oi := { dst := some 60, op := Op.indexAddr 24 (Operand.tmp 8) (Operand.tmp 59), type := 0, pos := "outright.go:24", after := #[{ on := 7, ground := Ground.data }, { on := 5, ground := Ground.guard }], guard := some (5, true) }) (v := undef) rfl (by kernel_rfl) (by kernel_rfl) (by kernel_rfl) (fun _ _ _ h => h) (Or.inr ⟨by kernel_rfl, rfl⟩) (by with_reducible assumption) ?_
          simp only [Act.put]
          refine wpAnyH_take (i := 9) (oi := { dst := some 61, op := Op.load 23 (Operand.tmp 60), type := 23, pos := "outright.go:24", after := #[{ on := 8, ground := Ground.data }, { on := 5, ground := Ground.guard }], guard := some (5, true) }) (v := undef) rfl (by kernel_rfl) (by kernel_rfl) (by kernel_rfl) (fun _ _ _ h => h) (Or.inr ⟨by kernel_rfl, rfl⟩) (by with_reducible assumption) ?_
          simp only [Act.put]
          refine wpAnyH_take (i := 11) (oi := { dst := some 63, op := Op.call { callee := Callee.value (Operand.func 37), args := #[Operand.tmp 61, Operand.tmp 62], argTypes := #[23, 23] }, type := 43, pos := "outright.go:24", after := #[{ on := 9, ground := Ground.data }, { on := 10, ground := Ground.data }, { on := 5, ground := Ground.chain }, { on := 5, ground := Ground.guard }], guard := some (5, true) }) (v := undef) rfl (by kernel_rfl) (by kernel_rfl) (by kernel_rfl) (fun _ _ _ h => h) (Or.inr ⟨by kernel_rfl, rfl⟩) (by with_reducible assumption) ?_
          simp only [Act.put]
          refine wpAnyH_take (i := 12) (oi := { dst := some 64, op := Op.binOp BinOp.gtr 43 (Operand.tmp 58) (Operand.tmp 63) 43, type := 4, pos := "outright.go:24", after := #[{ on := 6, ground := Ground.data }, { on := 11, ground := Ground.data }, { on := 5, ground := Ground.guard }], guard := some (5, true) }) (v := undef) rfl (by kernel_rfl) (by kernel_rfl) (by kernel_rfl) (fun _ _ _ h => h) (Or.inr ⟨by kernel_rfl, rfl⟩) (by with_reducible assumption) ?_
          simp only [Act.put]
          refine wpAnyH_ready (rs := [13]) (by kernel_rfl) (by simp) ?_
          refine AllReadyH.cons (o := { dst := some 65, op := Op.pick (Operand.tmp 57) (Operand.tmp 64) (Operand.const (Value.bool false)), type := 4, pos := "outright.go:24", after := #[{ on := 5, ground := Ground.data }, { on := 12, ground := Ground.data }], guard := none }) rfl (fun K hK => ?_) AllReadyH.nil
          go_simp
          refine hK.out _ _ (by with_reducible assumption) (fun hHeld => ?_)
          clear hK K
          refine wpAnyH_done (by kernel_rfl) ?_ _
          go_wp2_with fail
          go_roundw
          case rel => exact ⟨⟨k + 1, by omega, by go_num⟩, n10_keep (by first | exact hS.1 | exact hS.1.drew) HR.out.1, corAt_keep (by first | exact hS.1 | exact hS.1.drew) HR.out.2⟩
          case measure => simp [intOf]; omega
        · rw [hh] at kh
          have hle := near_le HM.out.1 HM.out.2.2 HC.out hh
          obtain ⟨e, he⟩ : ∃ e, e = distI c p := ⟨_, rfl⟩
          rw [← he] at kd hle
          rw [← HD.out] at hle
          have hlt2 : ¬ e < d := by omega
          have KH := Lib.hid kh
          have KD := Lib.hid kd
          clear kh kd hh hle he
          go_wp2_with fail
          go_region_held3 (fun W => Below wo.heap.size wo W ∧ W.cell? ⟨w.heap.size, 0, none⟩ = some (.int .i64 r.x0) ∧ W.cell? ⟨w.heap.size, 1, none⟩ = some (.int .i64 r.y0) ∧ W.cell? ⟨w.heap.size, 2, none⟩ = some (.int .i64 r.x1) ∧ W.cell? ⟨w.heap.size, 3, none⟩ = some (.int .i64 r.y1) ∧ W.cell? ⟨w.heap.size + 1 + 1, 0, none⟩ = some (.int .i64 p.x) ∧ W.cell? ⟨w.heap.size + 1 + 1, 1, none⟩ = some (.int .i64 p.y) ∧ W.cell? ⟨g, k * 2, none⟩ = some (.int .i64 c.x) ∧ W.cell? ⟨g, k * 2 + 1, none⟩ = some (.int .i64 c.y)) (repeat (first | with_reducible assumption | with_reducible exact SE.out | with_reducible refine e8_drew (wo := wo) (b := w.heap.size) (g := g) (k := k) (r := r) (p := p) (c := c) ?_)) (first | (go_at_call 34; (with_reducible refine (KH.out _).mono ?_); rintro _ w' ⟨rfl, l0⟩; have hS := e8_keep (wo := wo) (b := w.heap.size) (g := g) (k := k) (r := r) (p := p) (c := c) l0 (by repeat (first | with_reducible assumption | with_reducible exact SE.out | with_reducible refine e8_drew (wo := wo) (b := w.heap.size) (g := g) (k := k) (r := r) (p := p) (c := c) ?_)); clear l0) | (go_at_call 37; (with_reducible refine (KD.out _).mono ?_); rintro _ w' ⟨rfl, l0⟩; have hS := e8_keep (wo := wo) (b := w.heap.size) (g := g) (k := k) (r := r) (p := p) (c := c) l0 (by repeat (first | with_reducible assumption | with_reducible exact SE.out | with_reducible refine e8_drew (wo := wo) (b := w.heap.size) (g := g) (k := k) (r := r) (p := p) (c := c) ?_)); clear l0))
          go_wp2_with fail
          go_roundw
          case rel => exact ⟨⟨k + 1, by omega, by go_num⟩, n10_keep (by first | exact hS.1 | exact hS.1.drew) HR.out.1, corAt_keep (by first | exact hS.1 | exact hS.1.drew) HR.out.2⟩
          case measure => simp [intOf]; omega
      · obtain rfl : k = 4 := by omega
        have SW := Lib.hid hSr
        clear hSr hCr
        obtain ⟨j, hj⟩ : ∃ j, j = joinR r s := ⟨_, rfl⟩
        have hm := near_join HM.out.1 HM.out.2.1 HM.out.2.2
        have ho := join_over HM.out.1 HM.out.2.1
        have k5 := fun W => holds_any r p W
        have k6 := fun W => joinG_any r s W
        rw [show joinG r s = joinR r s by unfold joinG; rw [show mayRB r = true from decide_eq_true HM.out.1, show mayRB s = true from decide_eq_true HM.out.2.1]; rfl] at k6
        have k7 := fun W => near_any (joinR r s) p W
        have k8 := fun W => overlap_any (joinR r s) r W
        rw [ho] at k8
        have hz := near_zero HM.out.1 HM.out.2.2
        rw [← HD.out] at hm hz
        rw [← hz] at k5
        rw [← hj] at k6 k7 k8 hm
        obtain ⟨m, hm2⟩ : ∃ m, m = nearI j p := ⟨_, rfl⟩
        rw [← hm2] at k7 hm
        have hlt3 : m ≤ d := hm
        have K6 := Lib.hid k6
        have K7 := Lib.hid k7
        have K8 := Lib.hid k8
        have K0 := Lib.hid gAwake_any
        clear hm ho hz hm2 k6 k7 k8 hj hlt hk
        by_cases hd : d = 0
        · subst hd
          rw [show ((0 : Int) == 0) = true from rfl] at k5
          have K5 := Lib.hid k5
          clear k5
          go_wp2_with fail
          go_region_held3 (fun W => Below w.heap.size w W ∧ W.cell? ⟨w.heap.size, 0, none⟩ = some (.int .i64 r.x0) ∧ W.cell? ⟨w.heap.size, 1, none⟩ = some (.int .i64 r.y0) ∧ W.cell? ⟨w.heap.size, 2, none⟩ = some (.int .i64 r.x1) ∧ W.cell? ⟨w.heap.size, 3, none⟩ = some (.int .i64 r.y1) ∧ W.cell? ⟨w.heap.size + 1, 0, none⟩ = some (.int .i64 s.x0) ∧ W.cell? ⟨w.heap.size + 1, 1, none⟩ = some (.int .i64 s.y0) ∧ W.cell? ⟨w.heap.size + 1, 2, none⟩ = some (.int .i64 s.x1) ∧ W.cell? ⟨w.heap.size + 1, 3, none⟩ = some (.int .i64 s.y1) ∧ W.cell? ⟨w.heap.size + 1 + 1, 0, none⟩ = some (.int .i64 p.x) ∧ W.cell? ⟨w.heap.size + 1 + 1, 1, none⟩ = some (.int .i64 p.y)) (repeat (first | with_reducible assumption | with_reducible exact SW.out | with_reducible refine n10_drew (r := r) (s := s) (p := p) ?_)) (first | (go_at_call 34; (with_reducible refine (K5.out _).mono ?_); rintro _ w' ⟨rfl, l0⟩; have hS := n10_keep (w := w) (r := r) (s := s) (p := p) l0 (by repeat (first | with_reducible assumption | with_reducible exact SW.out | with_reducible refine n10_drew (r := r) (s := s) (p := p) ?_)); clear l0) | (go_at_call 30; (with_reducible refine (K6.out _).mono ?_); rintro _ w' ⟨rfl, l0⟩; have hS := n10_keep (w := w) (r := r) (s := s) (p := p) l0 (by repeat (first | with_reducible assumption | with_reducible exact SW.out | with_reducible refine n10_drew (r := r) (s := s) (p := p) ?_)); clear l0) | (go_at_call 36; (with_reducible refine (K7.out _).mono ?_); rintro _ w' ⟨rfl, l0⟩; have hS := n10_keep (w := w) (r := r) (s := s) (p := p) l0 (by repeat (first | with_reducible assumption | with_reducible exact SW.out | with_reducible refine n10_drew (r := r) (s := s) (p := p) ?_)); clear l0) | (go_at_call 28; (with_reducible refine (K8.out _).mono ?_); rintro _ w' ⟨rfl, l0⟩; have hS := n10_keep (w := w) (r := r) (s := s) (p := p) l0 (by repeat (first | with_reducible assumption | with_reducible exact SW.out | with_reducible refine n10_drew (r := r) (s := s) (p := p) ?_)); clear l0) | (go_at_call 19; (with_reducible refine (K0.out _).mono ?_); rintro _ w' ⟨rfl, l0⟩; have hS := n10_keep (w := w) (r := r) (s := s) (p := p) l0 (by repeat (first | with_reducible assumption | with_reducible exact SW.out | with_reducible refine n10_drew (r := r) (s := s) (p := p) ?_)); clear l0))
          go_wp2
          go_ret
          exact ⟨rfl, by first | exact hS.1 | exact hS.1.drew⟩
        · have hd0 : (d == 0) = false := by simpa using hd
          rw [hd0] at k5
          have K5 := Lib.hid k5
          clear k5
          go_wp2_with fail
          go_region_held3 (fun W => Below w.heap.size w W ∧ W.cell? ⟨w.heap.size, 0, none⟩ = some (.int .i64 r.x0) ∧ W.cell? ⟨w.heap.size, 1, none⟩ = some (.int .i64 r.y0) ∧ W.cell? ⟨w.heap.size, 2, none⟩ = some (.int .i64 r.x1) ∧ W.cell? ⟨w.heap.size, 3, none⟩ = some (.int .i64 r.y1) ∧ W.cell? ⟨w.heap.size + 1, 0, none⟩ = some (.int .i64 s.x0) ∧ W.cell? ⟨w.heap.size + 1, 1, none⟩ = some (.int .i64 s.y0) ∧ W.cell? ⟨w.heap.size + 1, 2, none⟩ = some (.int .i64 s.x1) ∧ W.cell? ⟨w.heap.size + 1, 3, none⟩ = some (.int .i64 s.y1) ∧ W.cell? ⟨w.heap.size + 1 + 1, 0, none⟩ = some (.int .i64 p.x) ∧ W.cell? ⟨w.heap.size + 1 + 1, 1, none⟩ = some (.int .i64 p.y)) (repeat (first | with_reducible assumption | with_reducible exact SW.out | with_reducible refine n10_drew (r := r) (s := s) (p := p) ?_)) (first | (go_at_call 34; (with_reducible refine (K5.out _).mono ?_); rintro _ w' ⟨rfl, l0⟩; have hS := n10_keep (w := w) (r := r) (s := s) (p := p) l0 (by repeat (first | with_reducible assumption | with_reducible exact SW.out | with_reducible refine n10_drew (r := r) (s := s) (p := p) ?_)); clear l0) | (go_at_call 30; (with_reducible refine (K6.out _).mono ?_); rintro _ w' ⟨rfl, l0⟩; have hS := n10_keep (w := w) (r := r) (s := s) (p := p) l0 (by repeat (first | with_reducible assumption | with_reducible exact SW.out | with_reducible refine n10_drew (r := r) (s := s) (p := p) ?_)); clear l0) | (go_at_call 36; (with_reducible refine (K7.out _).mono ?_); rintro _ w' ⟨rfl, l0⟩; have hS := n10_keep (w := w) (r := r) (s := s) (p := p) l0 (by repeat (first | with_reducible assumption | with_reducible exact SW.out | with_reducible refine n10_drew (r := r) (s := s) (p := p) ?_)); clear l0) | (go_at_call 28; (with_reducible refine (K8.out _).mono ?_); rintro _ w' ⟨rfl, l0⟩; have hS := n10_keep (w := w) (r := r) (s := s) (p := p) l0 (by repeat (first | with_reducible assumption | with_reducible exact SW.out | with_reducible refine n10_drew (r := r) (s := s) (p := p) ?_)); clear l0) | (go_at_call 19; (with_reducible refine (K0.out _).mono ?_); rintro _ w' ⟨rfl, l0⟩; have hS := n10_keep (w := w) (r := r) (s := s) (p := p) l0 (by repeat (first | with_reducible assumption | with_reducible exact SW.out | with_reducible refine n10_drew (r := r) (s := s) (p := p) ?_)); clear l0))
          go_wp2
          go_ret
          exact ⟨rfl, by first | exact hS.1 | exact hS.1.drew⟩
end Go.Proofs.Ytlkdjpidofnhdaa
