/- the document's Cross and Meet: the walks. -/
import Derived.Test.YtlkdjpidofnhdaaGMeet
namespace Go.Proofs.Ytlkdjpidofnhdaa
open Go.RowKit
set_option linter.unusedVariables false


theorem cross_no1 {a b c d : Pt} (h : turnI a b c * turnI a b d ≠ -1) : crossB a b c d = false := decide_eq_false fun k => by
  obtain ⟨⟨m1, m2⟩, _⟩ := mul_bd (turn_bd a b c).1 (turn_bd a b c).2 (turn_bd a b d).1 (turn_bd a b d).2
  omega
theorem cross_eq {a b c d : Pt} (h : turnI a b c * turnI a b d = -1) : crossB a b c d = (turnI c d a * turnI c d b == -1) := by
  obtain ⟨⟨m1, m2⟩, _⟩ := mul_bd (turn_bd c d a).1 (turn_bd c d a).2 (turn_bd c d b).1 (turn_bd c d b).2
  unfold crossB
  by_cases k : turnI c d a * turnI c d b = -1
  · rw [k]
    simp
    omega
  · have : ¬ turnI c d a * turnI c d b < 0 := by omega
    simp [k, this]
set_option maxRecDepth 100000 in
set_option maxHeartbeats 16000000 in
theorem refCross_any (a b c d : Pt) (hm : May4 a b c d) (w : World) : Calls Try.prog 21 #[.agg #[.int .i64 a.x, .int .i64 a.y], .agg #[.int .i64 b.x, .int .i64 b.y], .agg #[.int .i64 c.x, .int .i64 c.y], .agg #[.int .i64 d.x, .int .i64 d.y]] w fun e w' => e = .returned (.bool (crossB a b c d)) ∧ Below w.heap.size w w' := by
  have k1 := fun W => refTurn_any a b c ⟨hm.1, hm.2.1, hm.2.2.1⟩ W
  have k2 := fun W => refTurn_any a b d ⟨hm.1, hm.2.1, hm.2.2.2⟩ W
  have k3 := fun W => refTurn_any c d a ⟨hm.2.2.1, hm.2.2.2, hm.1⟩ W
  have k4 := fun W => refTurn_any c d b ⟨hm.2.2.1, hm.2.2.2, hm.2.1⟩ W
  have d1 := turn_bd a b c
  have d2 := turn_bd a b d
  have d3 := turn_bd c d a
  have d4 := turn_bd c d b
  have q1 := fun h => cross_no1 (a := a) (b := b) (c := c) (d := d) h
  have q2 := fun h => cross_eq (a := a) (b := b) (c := c) (d := d) h
  obtain ⟨q, hq⟩ : ∃ q, q = crossB a b c d := ⟨_, rfl⟩
  rw [← hq] at q1 q2 ⊢
  obtain ⟨t1, e1⟩ : ∃ t, t = turnI a b c := ⟨_, rfl⟩
  obtain ⟨t2, e2⟩ : ∃ t, t = turnI a b d := ⟨_, rfl⟩
  obtain ⟨t3, e3⟩ : ∃ t, t = turnI c d a := ⟨_, rfl⟩
  obtain ⟨t4, e4⟩ : ∃ t, t = turnI c d b := ⟨_, rfl⟩
  rw [← e1] at k1 d1 q1 q2
  rw [← e2] at k2 d2 q1 q2
  rw [← e3] at k3 d3 q2
  rw [← e4] at k4 d4 q2
  have HQ := Lib.hid (And.intro q1 q2)
  have K1 := Lib.hid k1
  have K2 := Lib.hid k2
  have K3 := Lib.hid k3
  have K4 := Lib.hid k4
  clear k1 k2 k3 k4 e1 e2 e3 e4 hq q1 q2 hm
  obtain ⟨⟨m1, m2⟩, m3, m4⟩ := mul_bd d1.1 d1.2 d2.1 d2.2
  obtain ⟨⟨n1, n2⟩, n3, n4⟩ := mul_bd d3.1 d3.2 d4.1 d4.2
  obtain ⟨u, hu⟩ : ∃ u, u = t1 * t2 := ⟨_, rfl⟩
  obtain ⟨v, hv⟩ : ∃ v, v = t3 * t4 := ⟨_, rfl⟩
  rw [← hu] at m1 m2 HQ
  rw [← hv] at n1 n2 HQ
  have m5 : IntKind.i64.wrap (t1 * t2) = u := by rw [m3, hu]
  have n5 : IntKind.i64.wrap (t3 * t4) = v := by rw [n3, hv]
  have m6 : wrap64 (t1 * t2) = u := by rw [m4, hu]
  have n6 : wrap64 (t3 * t4) = v := by rw [n4, hv]
  clear m3 m4 n3 n4 hu hv
  have hSB := s8_start w a b c d
  have SB0 := Lib.hid hSB
  clear hSB
  by_cases h1 : u = -1
  · have HE := Lib.hid (HQ.out.2 h1)
    subst h1
    go_enter Try.func21, Try.ntmps21
    go_wp2_with fail
    have hSB := SB0.out
    generalize ((((w.alloc (.cells #[.int .i64 a.x, .int .i64 a.y] 23)).alloc (.cells #[.int .i64 b.x, .int .i64 b.y] 23)).alloc (.cells #[.int .i64 c.x, .int .i64 c.y] 23)).alloc (.cells #[.int .i64 d.x, .int .i64 d.y] 23)) = B at hSB ⊢
    have SB := Lib.hid hSB
    clear hSB
    go_region_held3 (fun W => Below w.heap.size w W ∧ W.cell? ⟨w.heap.size, 0, none⟩ = some (.int .i64 a.x) ∧ W.cell? ⟨w.heap.size, 1, none⟩ = some (.int .i64 a.y) ∧ W.cell? ⟨w.heap.size + 1, 0, none⟩ = some (.int .i64 b.x) ∧ W.cell? ⟨w.heap.size + 1, 1, none⟩ = some (.int .i64 b.y) ∧ W.cell? ⟨w.heap.size + 1 + 1, 0, none⟩ = some (.int .i64 c.x) ∧ W.cell? ⟨w.heap.size + 1 + 1, 1, none⟩ = some (.int .i64 c.y) ∧ W.cell? ⟨w.heap.size + 1 + 1 + 1, 0, none⟩ = some (.int .i64 d.x) ∧ W.cell? ⟨w.heap.size + 1 + 1 + 1, 1, none⟩ = some (.int .i64 d.y)) (with_reducible first | assumption | exact SB.out | exact s8_drew SB.out | exact s8_drew (by assumption)) (first
      | (go_at_call 12; (with_reducible refine (K1.out _).mono ?_); rintro e w' ⟨rfl, l1⟩; have hS := s8_keep (w := w) (a := a) (b := b) (c := c) (d := d) l1 (by with_reducible first | assumption | exact SB.out | exact s8_drew SB.out | exact s8_drew (by assumption)); clear l1)
      | (go_at_call 12; (with_reducible refine (K2.out _).mono ?_); rintro e w' ⟨rfl, l1⟩; have hS := s8_keep (w := w) (a := a) (b := b) (c := c) (d := d) l1 (by with_reducible first | assumption | exact SB.out | exact s8_drew SB.out | exact s8_drew (by assumption)); clear l1)
      | (go_at_call 12; (with_reducible refine (K3.out _).mono ?_); rintro e w' ⟨rfl, l1⟩; have hS := s8_keep (w := w) (a := a) (b := b) (c := c) (d := d) l1 (by with_reducible first | assumption | exact SB.out | exact s8_drew SB.out | exact s8_drew (by assumption)); clear l1)
      | (go_at_call 12; (with_reducible refine (K4.out _).mono ?_); rintro e w' ⟨rfl, l1⟩; have hS := s8_keep (w := w) (a := a) (b := b) (c := c) (d := d) l1 (by with_reducible first | assumption | exact SB.out | exact s8_drew SB.out | exact s8_drew (by assumption)); clear l1))
    go_wp2
    go_ret
    exact ⟨ret_b (by rw [HE.out]), by first | exact hS.1 | exact hS.1.drew⟩
  · have HE := Lib.hid (HQ.out.1 h1)
    have hun : (u == -1) = false := by simpa using h1
    clear h1
    go_enter Try.func21, Try.ntmps21
    go_wp2_with fail
    have hSB := SB0.out
    generalize ((((w.alloc (.cells #[.int .i64 a.x, .int .i64 a.y] 23)).alloc (.cells #[.int .i64 b.x, .int .i64 b.y] 23)).alloc (.cells #[.int .i64 c.x, .int .i64 c.y] 23)).alloc (.cells #[.int .i64 d.x, .int .i64 d.y] 23)) = B at hSB ⊢
    have SB := Lib.hid hSB
    clear hSB
    refine wp_region_held_drew (S := fun W => Below w.heap.size w W ∧ W.cell? ⟨w.heap.size, 0, none⟩ = some (.int .i64 a.x) ∧ W.cell? ⟨w.heap.size, 1, none⟩ = some (.int .i64 a.y) ∧ W.cell? ⟨w.heap.size + 1, 0, none⟩ = some (.int .i64 b.x) ∧ W.cell? ⟨w.heap.size + 1, 1, none⟩ = some (.int .i64 b.y) ∧ W.cell? ⟨w.heap.size + 1 + 1, 0, none⟩ = some (.int .i64 c.x) ∧ W.cell? ⟨w.heap.size + 1 + 1, 1, none⟩ = some (.int .i64 c.y) ∧ W.cell? ⟨w.heap.size + 1 + 1 + 1, 0, none⟩ = some (.int .i64 d.x) ∧ W.cell? ⟨w.heap.size + 1 + 1 + 1, 1, none⟩ = some (.int .i64 d.y)) (by kernel_rfl) (s8_drew SB.out) (fun hHeld => ?_)
    refine wpAnyH_take (i := 0) (oi := { dst := some 9, op := Op.load 23 (Operand.tmp 4), type := 23, pos := "ref.go:48", after := #[], guard := none }) (v := ?_) rfl (by kernel_rfl) (by kernel_rfl) (by kernel_rfl) (fun _ _ _ h => h) (Or.inl ⟨by rfl, ?_⟩) (by with_reducible assumption) ?_
    rotate_left 1
    · (intro w0 hSw; (try dsimp only at hSw); go_simp; (try with_reducible rfl))
    simp only [Act.put]
    refine wpAnyH_take (i := 1) (oi := { dst := some 10, op := Op.load 23 (Operand.tmp 5), type := 23, pos := "ref.go:48", after := #[], guard := none }) (v := ?_) rfl (by kernel_rfl) (by kernel_rfl) (by kernel_rfl) (fun _ _ _ h => h) (Or.inl ⟨by rfl, ?_⟩) (by with_reducible assumption) ?_
    rotate_left 1
    · (intro w0 hSw; (try dsimp only at hSw); go_simp; (try with_reducible rfl))
    simp only [Act.put]
    refine wpAnyH_take (i := 2) (oi := { dst := some 11, op := Op.load 23 (Operand.tmp 6), type := 23, pos := "ref.go:48", after := #[], guard := none }) (v := ?_) rfl (by kernel_rfl) (by kernel_rfl) (by kernel_rfl) (fun _ _ _ h => h) (Or.inl ⟨by rfl, ?_⟩) (by with_reducible assumption) ?_
    rotate_left 1
    · (intro w0 hSw; (try dsimp only at hSw); go_simp; (try with_reducible rfl))
    simp only [Act.put]
    refine wpAnyH_take (i := 4) (oi := { dst := some 13, op := Op.load 23 (Operand.tmp 4), type := 23, pos := "ref.go:48", after := #[], guard := none }) (v := ?_) rfl (by kernel_rfl) (by kernel_rfl) (by kernel_rfl) (fun _ _ _ h => h) (Or.inl ⟨by rfl, ?_⟩) (by with_reducible assumption) ?_
    rotate_left 1
    · (intro w0 hSw; (try dsimp only at hSw); go_simp; (try with_reducible rfl))
    simp only [Act.put]
    refine wpAnyH_take (i := 5) (oi := { dst := some 14, op := Op.load 23 (Operand.tmp 5), type := 23, pos := "ref.go:48", after := #[], guard := none }) (v := ?_) rfl (by kernel_rfl) (by kernel_rfl) (by kernel_rfl) (fun _ _ _ h => h) (Or.inl ⟨by rfl, ?_⟩) (by with_reducible assumption) ?_
    rotate_left 1
    · (intro w0 hSw; (try dsimp only at hSw); go_simp; (try with_reducible rfl))
    simp only [Act.put]
    refine wpAnyH_take (i := 6) (oi := { dst := some 15, op := Op.load 23 (Operand.tmp 7), type := 23, pos := "ref.go:48", after := #[], guard := none }) (v := ?_) rfl (by kernel_rfl) (by kernel_rfl) (by kernel_rfl) (fun _ _ _ h => h) (Or.inl ⟨by rfl, ?_⟩) (by with_reducible assumption) ?_
    rotate_left 1
    · (intro w0 hSw; (try dsimp only at hSw); go_simp; (try with_reducible rfl))
    simp only [Act.put]
    refine wpAnyH_ready (rs := [3]) (by kernel_rfl) (by simp) ?_
    refine AllReadyH.cons (o := { dst := some 12, op := Op.call { callee := Callee.value (Operand.func 12), args := #[Operand.tmp 9, Operand.tmp 10, Operand.tmp 11], argTypes := #[23, 23, 23] }, type := 3, pos := "ref.go:48", after := #[{ on := 0, ground := Ground.data }, { on := 1, ground := Ground.data }, { on := 2, ground := Ground.data }], guard := none }) rfl (fun K hK => ?_) AllReadyH.nil
    go_simp
    go_wp2_with (go_at_call 12; (with_reducible refine (K1.out _).mono ?_); rintro e w' ⟨rfl, l1⟩; have hS := s8_keep (w := w) (a := a) (b := b) (c := c) (d := d) l1 (by with_reducible first | assumption | exact SB.out | exact s8_drew SB.out | exact s8_drew (by assumption)); clear l1)
    refine hK.out _ _ (by with_reducible assumption) (fun hHeld => ?_)
    clear hK K
    refine wpAnyH_ready (rs := [7]) (by kernel_rfl) (by simp) ?_
    refine AllReadyH.cons (o := { dst := some 16, op := Op.call { callee := Callee.value (Operand.func 12), args := #[Operand.tmp 13, Operand.tmp 14, Operand.tmp 15], argTypes := #[23, 23, 23] }, type := 3, pos := "ref.go:48", after := #[{ on := 4, ground := Ground.data }, { on := 5, ground := Ground.data }, { on := 6, ground := Ground.data }, { on := 3, ground := Ground.chain }], guard := none }) rfl (fun K hK => ?_) AllReadyH.nil
    go_simp
    go_wp2_with (go_at_call 12; (with_reducible refine (K2.out _).mono ?_); rintro e w' ⟨rfl, l1⟩; have hS := s8_keep (w := w) (a := a) (b := b) (c := c) (d := d) l1 (by with_reducible first | assumption | exact SB.out | exact s8_drew SB.out | exact s8_drew (by assumption)); clear l1)
    refine hK.out _ _ (by with_reducible assumption) (fun hHeld => ?_)
    clear hK K
    refine wpAnyH_take (i := 8) (oi := { dst := some 17, op := Op.binOp BinOp.mul 3 (Operand.tmp 12) (Operand.tmp 16) 3, type := 3, pos := "ref.go:48", after := #[{ on := 3, ground := Ground.data }, { on := 7, ground := Ground.data }], guard := none }) (v := ?_) rfl (by kernel_rfl) (by kernel_rfl) (by kernel_rfl) (fun _ _ _ h => h) (Or.inl ⟨by rfl, ?_⟩) (by with_reducible assumption) ?_
    rotate_left 1
    · (intro w0 hSw; (try dsimp only at hSw); go_simp; (try with_reducible rfl))
    simp only [Act.put]
    refine wpAnyH_take (i := 9) (oi := { dst := some 18, op := Op.binOp BinOp.eql 3 (Operand.tmp 17) (Operand.const (Value.int IntKind.i64 (-1))) 3, type := 4, pos := "ref.go:48", after := #[{ on := 8, ground := Ground.data }], guard := none }) (v := ?_) rfl (by kernel_rfl) (by kernel_rfl) (by kernel_rfl) (fun _ _ _ h => h) (Or.inl ⟨by rfl, ?_⟩) (by with_reducible assumption) ?_
    rotate_left 1
    · (intro w0 hSw; (try dsimp only at hSw); go_simp; (try with_reducible rfl))
    simp only [Act.put]
    refine wpAnyH_take (i := 10) (oi := { dst := some 19, op := Op.move (Operand.tmp 18), type := 4, pos := "ref.go:48", after := #[{ on := 9, ground := Ground.data }, { on := 7, ground := Ground.chain }], guard := none }) (v := ?_) rfl (by kernel_rfl) (by kernel_rfl) (by kernel_rfl) (fun _ _ _ h => h) (Or.inl ⟨by rfl, ?_⟩) (by with_reducible assumption) ?_
    rotate_left 1
    · (intro w0 hSw; (try dsimp only at hSw); go_simp; (try with_reducible rfl))
    simp only [Act.put]
    refine wpAnyH_take (i := 11) (oi := { dst := some 20, op := Op.load 23 (Operand.tmp 6), type := 23, pos := "ref.go:48", after := #[{ on := 10, ground := Ground.guard }], guard := some (10, true) }) (v := undef) rfl (by kernel_rfl) (by kernel_rfl) (by kernel_rfl) (fun _ _ _ h => h) (Or.inr ⟨by kernel_rfl, rfl⟩) (by with_reducible assumption) ?_
    simp only [Act.put]
    refine wpAnyH_take (i := 12) (oi := { dst := some 21, op := Op.load 23 (Operand.tmp 7), type := 23, pos := "ref.go:48", after := #[{ on := 10, ground := Ground.guard }], guard := some (10, true) }) (v := undef) rfl (by kernel_rfl) (by kernel_rfl) (by kernel_rfl) (fun _ _ _ h => h) (Or.inr ⟨by kernel_rfl, rfl⟩) (by with_reducible assumption) ?_
    simp only [Act.put]
    refine wpAnyH_take (i := 13) (oi := { dst := some 22, op := Op.load 23 (Operand.tmp 4), type := 23, pos := "ref.go:48", after := #[{ on := 10, ground := Ground.guard }], guard := some (10, true) }) (v := undef) rfl (by kernel_rfl) (by kernel_rfl) (by kernel_rfl) (fun _ _ _ h => h) (Or.inr ⟨by kernel_rfl, rfl⟩) (by with_reducible assumption) ?_
    simp only [Act.put]
    refine wpAnyH_take (i := 14) (oi := { dst := some 23, op := Op.call { callee := Callee.value (Operand.func 12), args := #[Operand.tmp 20, Operand.tmp 21, Operand.tmp 22], argTypes := #[23, 23, 23] }, type := 3, pos := "ref.go:48", after := #[{ on := 11, ground := Ground.data }, { on := 12, ground := Ground.data }, { on := 13, ground := Ground.data }, { on := 10, ground := Ground.chain }, { on := 10, ground := Ground.guard }], guard := some (10, true) }) (v := undef) rfl (by kernel_rfl) (by kernel_rfl) (by kernel_rfl) (fun _ _ _ h => h) (Or.inr ⟨by kernel_rfl, rfl⟩) (by with_reducible assumption) ?_
    simp only [Act.put]
    refine wpAnyH_take (i := 15) (oi := { dst := some 24, op := Op.load 23 (Operand.tmp 6), type := 23, pos := "ref.go:48", after := #[{ on := 10, ground := Ground.guard }], guard := some (10, true) }) (v := undef) rfl (by kernel_rfl) (by kernel_rfl) (by kernel_rfl) (fun _ _ _ h => h) (Or.inr ⟨by kernel_rfl, rfl⟩) (by with_reducible assumption) ?_
    simp only [Act.put]
    refine wpAnyH_take (i := 16) (oi := { dst := some 25, op := Op.load 23 (Operand.tmp 7), type := 23, pos := "ref.go:48", after := #[{ on := 10, ground := Ground.guard }], guard := some (10, true) }) (v := undef) rfl (by kernel_rfl) (by kernel_rfl) (by kernel_rfl) (fun _ _ _ h => h) (Or.inr ⟨by kernel_rfl, rfl⟩) (by with_reducible assumption) ?_
    simp only [Act.put]
    refine wpAnyH_take (i := 17) (oi := { dst := some 26, op := Op.load 23 (Operand.tmp 5), type := 23, pos := "ref.go:48", after := #[{ on := 10, ground := Ground.guard }], guard := some (10, true) }) (v := undef) rfl (by kernel_rfl) (by kernel_rfl) (by kernel_rfl) (fun _ _ _ h => h) (Or.inr ⟨by kernel_rfl, rfl⟩) (by with_reducible assumption) ?_
    simp only [Act.put]
    refine wpAnyH_take (i := 18) (oi := { dst := some 27, op := Op.call { callee := Callee.value (Operand.func 12), args := #[Operand.tmp 24, Operand.tmp 25, Operand.tmp 26], argTypes := #[23, 23, 23] }, type := 3, pos := "ref.go:48", after := #[{ on := 15, ground := Ground.data }, { on := 16, ground := Ground.data }, { on := 17, ground := Ground.data }, { on := 14, ground := Ground.chain }, { on := 10, ground := Ground.guard }], guard := some (10, true) }) (v := undef) rfl (by kernel_rfl) (by kernel_rfl) (by kernel_rfl) (fun _ _ _ h => h) (Or.inr ⟨by kernel_rfl, rfl⟩) (by with_reducible assumption) ?_
    simp only [Act.put]
    refine wpAnyH_take (i := 19) (oi := { dst := some 28, op := Op.binOp BinOp.mul 3 (Operand.tmp 23) (Operand.tmp 27) 3, type := 3, pos := "ref.go:48", after := #[{ on := 14, ground := Ground.data }, { on := 18, ground := Ground.data }, { on := 10, ground := Ground.guard }], guard := some (10, true) }) (v := undef) rfl (by kernel_rfl) (by kernel_rfl) (by kernel_rfl) (fun _ _ _ h => h) (Or.inr ⟨by kernel_rfl, rfl⟩) (by with_reducible assumption) ?_
    simp only [Act.put]
    refine wpAnyH_take (i := 20) (oi := { dst := some 29, op := Op.binOp BinOp.eql 3 (Operand.tmp 28) (Operand.const (Value.int IntKind.i64 (-1))) 3, type := 4, pos := "ref.go:48", after := #[{ on := 19, ground := Ground.data }, { on := 10, ground := Ground.guard }], guard := some (10, true) }) (v := undef) rfl (by kernel_rfl) (by kernel_rfl) (by kernel_rfl) (fun _ _ _ h => h) (Or.inr ⟨by kernel_rfl, rfl⟩) (by with_reducible assumption) ?_
    simp only [Act.put]
    refine wpAnyH_take (i := 21) (oi := { dst := some 30, op := Op.pick (Operand.tmp 19) (Operand.tmp 29) (Operand.const (Value.bool false)), type := 4, pos := "ref.go:48", after := #[{ on := 10, ground := Ground.data }, { on := 20, ground := Ground.data }], guard := none }) (v := ?_) rfl (by kernel_rfl) (by kernel_rfl) (by kernel_rfl) (fun _ _ _ h => h) (Or.inl ⟨by rfl, ?_⟩) (by with_reducible assumption) ?_
    rotate_left 1
    · (intro w0 hSw; (try dsimp only at hSw); go_simp; (try with_reducible rfl))
    simp only [Act.put]
    refine wpAnyH_ready (rs := [22]) (by kernel_rfl) (by simp) ?_
    refine AllReadyH.cons (o := { dst := some 8, op := Op.assign (Operand.tmp 30), type := 4, pos := "ref.go:48", after := #[{ on := 21, ground := Ground.data }, { on := 18, ground := Ground.chain }, { on := 0, ground := Ground.phase }, { on := 1, ground := Ground.phase }, { on := 2, ground := Ground.phase }, { on := 3, ground := Ground.phase }, { on := 4, ground := Ground.phase }, { on := 5, ground := Ground.phase }, { on := 6, ground := Ground.phase }, { on := 7, ground := Ground.phase }, { on := 8, ground := Ground.phase }, { on := 9, ground := Ground.phase }, { on := 10, ground := Ground.phase }, { on := 11, ground := Ground.phase }, { on := 12, ground := Ground.phase }, { on := 13, ground := Ground.phase }, { on := 14, ground := Ground.phase }, { on := 15, ground := Ground.phase }, { on := 16, ground := Ground.phase }, { on := 17, ground := Ground.phase }, { on := 18, ground := Ground.phase }, { on := 19, ground := Ground.phase }, { on := 20, ground := Ground.phase }, { on := 21, ground := Ground.phase }], guard := none }) rfl (fun K hK => ?_) AllReadyH.nil
    go_simp
    refine hK.out _ _ (by with_reducible assumption) (fun hHeld => ?_)
    clear hK K
    refine wpAnyH_done (by kernel_rfl) ?_ _

    go_wp2
    go_ret
    exact ⟨ret_b HE.out.symm, by first | exact hS.1 | exact hS.1.drew⟩
set_option maxRecDepth 100000 in
set_option maxHeartbeats 16000000 in
theorem refMeet_any (a b c d : Pt) (hm : May4 a b c d) (w : World) : Calls Try.prog 20 #[.agg #[.int .i64 a.x, .int .i64 a.y], .agg #[.int .i64 b.x, .int .i64 b.y], .agg #[.int .i64 c.x, .int .i64 c.y], .agg #[.int .i64 d.x, .int .i64 d.y]] w fun e w' => e = .returned (.bool (meetB a b c d)) ∧ Below w.heap.size w w' := by
  have HM := Lib.hid hm
  have m0 := fun W => refCross_any a b c d hm W
  have m1 := fun W => refOn_any a b c ⟨hm.1, hm.2.1, hm.2.2.1⟩ W
  have m2 := fun W => refOn_any a b d ⟨hm.1, hm.2.1, hm.2.2.2⟩ W
  have m3 := fun W => refOn_any c d a ⟨hm.2.2.1, hm.2.2.2, hm.1⟩ W
  have m4 := fun W => refOn_any c d b ⟨hm.2.2.1, hm.2.2.2, hm.2.1⟩ W
  clear hm
  cases h0 : crossB a b c d
  · rw [h0] at m0
    have M0 := Lib.hid m0
    cases h1 : onB a b c
    · rw [h1] at m1
      have M1 := Lib.hid m1
      cases h2 : onB a b d
      · rw [h2] at m2
        have M2 := Lib.hid m2
        cases h3 : onB c d a
        · rw [h3] at m3
          have M3 := Lib.hid m3
          cases h4 : onB c d b
          · rw [h4] at m4
            have M4 := Lib.hid m4
            have HE := Lib.hid (meet_no h0 h1 h2 h3 h4)
            clear h0 h1 h2 h3 h4 m0 m1 m2 m3 m4
            go_enter Try.func20, Try.ntmps20
            have HS := Lib.hid (s8_start w a b c d)
            go_wp2_with fail
            (with_reducible refine (M0.out _).mono ?_); rintro _ w2 ⟨rfl, l1⟩
            have hS2 := s8_keep (w := w) (a := a) (b := b) (c := c) (d := d) l1 HS.out
            clear l1 HS
            have HS := Lib.hid hS2
            obtain ⟨_, c0, c1, c2, c3, c4, c5, c6, c7⟩ := hS2
            go_wp2_with fail
            (with_reducible refine (M1.out _).mono ?_); rintro _ w3 ⟨rfl, l1⟩
            have hS3 := s8_keep (w := w) (a := a) (b := b) (c := c) (d := d) l1 HS.out
            clear l1 HS
            have HS := Lib.hid hS3
            obtain ⟨_, c0, c1, c2, c3, c4, c5, c6, c7⟩ := hS3
            go_wp2_with fail
            (with_reducible refine (M2.out _).mono ?_); rintro _ w4 ⟨rfl, l1⟩
            have hS4 := s8_keep (w := w) (a := a) (b := b) (c := c) (d := d) l1 HS.out
            clear l1 HS
            have HS := Lib.hid hS4
            obtain ⟨_, c0, c1, c2, c3, c4, c5, c6, c7⟩ := hS4
            go_wp2_with fail
            (with_reducible refine (M3.out _).mono ?_); rintro _ w5 ⟨rfl, l1⟩
            have hS5 := s8_keep (w := w) (a := a) (b := b) (c := c) (d := d) l1 HS.out
            clear l1 HS
            have HS := Lib.hid hS5
            obtain ⟨_, c0, c1, c2, c3, c4, c5, c6, c7⟩ := hS5
            go_wp2_with fail
            (with_reducible refine (M4.out _).mono ?_); rintro _ w6 ⟨rfl, l1⟩
            have hS6 := s8_keep (w := w) (a := a) (b := b) (c := c) (d := d) l1 HS.out
            clear l1 HS
            have HS := Lib.hid hS6
            obtain ⟨_, c0, c1, c2, c3, c4, c5, c6, c7⟩ := hS6
            go_wp2
            go_ret
            exact ⟨ret_b HE.out.symm, HS.out.1⟩
          · rw [h4] at m4
            have M4 := Lib.hid m4
            have HE := Lib.hid (meet_yes HM.out (.inr (.inr (.inr (.inr h4)))))
            clear h0 h1 h2 h3 h4 m0 m1 m2 m3 m4
            go_enter Try.func20, Try.ntmps20
            have HS := Lib.hid (s8_start w a b c d)
            go_wp2_with fail
            (with_reducible refine (M0.out _).mono ?_); rintro _ w2 ⟨rfl, l1⟩
            have hS2 := s8_keep (w := w) (a := a) (b := b) (c := c) (d := d) l1 HS.out
            clear l1 HS
            have HS := Lib.hid hS2
            obtain ⟨_, c0, c1, c2, c3, c4, c5, c6, c7⟩ := hS2
            go_wp2_with fail
            (with_reducible refine (M1.out _).mono ?_); rintro _ w3 ⟨rfl, l1⟩
            have hS3 := s8_keep (w := w) (a := a) (b := b) (c := c) (d := d) l1 HS.out
            clear l1 HS
            have HS := Lib.hid hS3
            obtain ⟨_, c0, c1, c2, c3, c4, c5, c6, c7⟩ := hS3
            go_wp2_with fail
            (with_reducible refine (M2.out _).mono ?_); rintro _ w4 ⟨rfl, l1⟩
            have hS4 := s8_keep (w := w) (a := a) (b := b) (c := c) (d := d) l1 HS.out
            clear l1 HS
            have HS := Lib.hid hS4
            obtain ⟨_, c0, c1, c2, c3, c4, c5, c6, c7⟩ := hS4
            go_wp2_with fail
            (with_reducible refine (M3.out _).mono ?_); rintro _ w5 ⟨rfl, l1⟩
            have hS5 := s8_keep (w := w) (a := a) (b := b) (c := c) (d := d) l1 HS.out
            clear l1 HS
            have HS := Lib.hid hS5
            obtain ⟨_, c0, c1, c2, c3, c4, c5, c6, c7⟩ := hS5
            go_wp2_with fail
            (with_reducible refine (M4.out _).mono ?_); rintro _ w6 ⟨rfl, l1⟩
            have hS6 := s8_keep (w := w) (a := a) (b := b) (c := c) (d := d) l1 HS.out
            clear l1 HS
            have HS := Lib.hid hS6
            obtain ⟨_, c0, c1, c2, c3, c4, c5, c6, c7⟩ := hS6
            go_wp2
            go_ret
            exact ⟨ret_b HE.out.symm, HS.out.1⟩
        · rw [h3] at m3
          have M3 := Lib.hid m3
          have HE := Lib.hid (meet_yes HM.out (.inr (.inr (.inr (.inl h3)))))
          clear h0 h1 h2 h3 m0 m1 m2 m3 m4
          go_enter Try.func20, Try.ntmps20
          have HS := Lib.hid (s8_start w a b c d)
          go_wp2_with fail
          (with_reducible refine (M0.out _).mono ?_); rintro _ w2 ⟨rfl, l1⟩
          have hS2 := s8_keep (w := w) (a := a) (b := b) (c := c) (d := d) l1 HS.out
          clear l1 HS
          have HS := Lib.hid hS2
          obtain ⟨_, c0, c1, c2, c3, c4, c5, c6, c7⟩ := hS2
          go_wp2_with fail
          (with_reducible refine (M1.out _).mono ?_); rintro _ w3 ⟨rfl, l1⟩
          have hS3 := s8_keep (w := w) (a := a) (b := b) (c := c) (d := d) l1 HS.out
          clear l1 HS
          have HS := Lib.hid hS3
          obtain ⟨_, c0, c1, c2, c3, c4, c5, c6, c7⟩ := hS3
          go_wp2_with fail
          (with_reducible refine (M2.out _).mono ?_); rintro _ w4 ⟨rfl, l1⟩
          have hS4 := s8_keep (w := w) (a := a) (b := b) (c := c) (d := d) l1 HS.out
          clear l1 HS
          have HS := Lib.hid hS4
          obtain ⟨_, c0, c1, c2, c3, c4, c5, c6, c7⟩ := hS4
          go_wp2_with fail
          (with_reducible refine (M3.out _).mono ?_); rintro _ w5 ⟨rfl, l1⟩
          have hS5 := s8_keep (w := w) (a := a) (b := b) (c := c) (d := d) l1 HS.out
          clear l1 HS
          have HS := Lib.hid hS5
          obtain ⟨_, c0, c1, c2, c3, c4, c5, c6, c7⟩ := hS5
          go_wp2
          go_ret
          exact ⟨ret_b HE.out.symm, HS.out.1⟩
      · rw [h2] at m2
        have M2 := Lib.hid m2
        have HE := Lib.hid (meet_yes HM.out (.inr (.inr (.inl h2))))
        clear h0 h1 h2 m0 m1 m2 m3 m4
        go_enter Try.func20, Try.ntmps20
        have HS := Lib.hid (s8_start w a b c d)
        go_wp2_with fail
        (with_reducible refine (M0.out _).mono ?_); rintro _ w2 ⟨rfl, l1⟩
        have hS2 := s8_keep (w := w) (a := a) (b := b) (c := c) (d := d) l1 HS.out
        clear l1 HS
        have HS := Lib.hid hS2
        obtain ⟨_, c0, c1, c2, c3, c4, c5, c6, c7⟩ := hS2
        go_wp2_with fail
        (with_reducible refine (M1.out _).mono ?_); rintro _ w3 ⟨rfl, l1⟩
        have hS3 := s8_keep (w := w) (a := a) (b := b) (c := c) (d := d) l1 HS.out
        clear l1 HS
        have HS := Lib.hid hS3
        obtain ⟨_, c0, c1, c2, c3, c4, c5, c6, c7⟩ := hS3
        go_wp2_with fail
        (with_reducible refine (M2.out _).mono ?_); rintro _ w4 ⟨rfl, l1⟩
        have hS4 := s8_keep (w := w) (a := a) (b := b) (c := c) (d := d) l1 HS.out
        clear l1 HS
        have HS := Lib.hid hS4
        obtain ⟨_, c0, c1, c2, c3, c4, c5, c6, c7⟩ := hS4
        go_wp2
        go_ret
        exact ⟨ret_b HE.out.symm, HS.out.1⟩
    · rw [h1] at m1
      have M1 := Lib.hid m1
      have HE := Lib.hid (meet_yes HM.out (.inr (.inl h1)))
      clear h0 h1 m0 m1 m2 m3 m4
      go_enter Try.func20, Try.ntmps20
      have HS := Lib.hid (s8_start w a b c d)
      go_wp2_with fail
      (with_reducible refine (M0.out _).mono ?_); rintro _ w2 ⟨rfl, l1⟩
      have hS2 := s8_keep (w := w) (a := a) (b := b) (c := c) (d := d) l1 HS.out
      clear l1 HS
      have HS := Lib.hid hS2
      obtain ⟨_, c0, c1, c2, c3, c4, c5, c6, c7⟩ := hS2
      go_wp2_with fail
      (with_reducible refine (M1.out _).mono ?_); rintro _ w3 ⟨rfl, l1⟩
      have hS3 := s8_keep (w := w) (a := a) (b := b) (c := c) (d := d) l1 HS.out
      clear l1 HS
      have HS := Lib.hid hS3
      obtain ⟨_, c0, c1, c2, c3, c4, c5, c6, c7⟩ := hS3
      go_wp2
      go_ret
      exact ⟨ret_b HE.out.symm, HS.out.1⟩
  · rw [h0] at m0
    have M0 := Lib.hid m0
    have HE := Lib.hid (meet_yes HM.out (.inl h0))
    clear h0 m0 m1 m2 m3 m4
    go_enter Try.func20, Try.ntmps20
    have HS := Lib.hid (s8_start w a b c d)
    go_wp2_with fail
    (with_reducible refine (M0.out _).mono ?_); rintro _ w2 ⟨rfl, l1⟩
    have hS2 := s8_keep (w := w) (a := a) (b := b) (c := c) (d := d) l1 HS.out
    clear l1 HS
    have HS := Lib.hid hS2
    obtain ⟨_, c0, c1, c2, c3, c4, c5, c6, c7⟩ := hS2
    go_wp2
    go_ret
    exact ⟨ret_b HE.out.symm, HS.out.1⟩
end Go.Proofs.Ytlkdjpidofnhdaa
