/- GeomRects: the walk where the first rect may not be. -/
import Derived.Test.YtehmdokcdnlcdaaGRects0
namespace Go.Proofs.Ytehmdokcdnlcdaa
open Go.RowKit
set_option linter.unusedVariables false

set_option maxRecDepth 100000 in
set_option maxHeartbeats 16000000 in
theorem rects_mainF (A : Option Addr) (n c : Nat) (F : Nat → Pt) (r s : Rc) (w : World) (h100 : n ≤ 100) (ok x y ov : Bool) (b j : Rc)
    (HP : Hid (Pts w A n F)) (HN : Hid (A = none → c = 0))
    (KB : Hid (∀ (base : Nat) (A' : Option Addr) (c' : Nat) (W : World), OwnP W base A' n c' F → Calls Try.prog 24 #[.slice A' n c'] W fun e w' => e = .returned (.tuple #[.agg #[.int .i64 b.x0, .int .i64 b.y0, .int .i64 b.x1, .int .i64 b.y1], .bool ok]) ∧ Below W.heap.size W w'))
    (KL : Hid (0 < n → ∀ W : World, Below w.heap.size w W → Calls Try.prog 10 #[.slice A n c] W fun e w' => e = .returned (.bool ok) ∧ Below W.heap.size W w'))
    (HZ : Hid (n = 0 → ok = false))
    (KR : Hid (ok = true → ∀ W : World, Below w.heap.size w W → Calls Try.prog 25 #[.slice A n c] W fun e w' => e = .returned (.agg #[.int .i64 b.x0, .int .i64 b.y0, .int .i64 b.x1, .int .i64 b.y1]) ∧ Below W.heap.size W w'))
    (HB0 : Hid (ok = false → b = zeroR))
    (KX : Hid (∀ W : World, Calls Try.prog 26 #[.agg #[.int .i64 r.x0, .int .i64 r.y0, .int .i64 r.x1, .int .i64 r.y1]] W fun e w' => e = .returned (.bool x) ∧ Below W.heap.size W w'))
    (KY : Hid (∀ W : World, Calls Try.prog 26 #[.agg #[.int .i64 s.x0, .int .i64 s.y0, .int .i64 s.x1, .int .i64 s.y1]] W fun e w' => e = .returned (.bool y) ∧ Below W.heap.size W w'))
    (GX : Hid (∀ W : World, Calls Try.prog 27 #[.agg #[.int .i64 r.x0, .int .i64 r.y0, .int .i64 r.x1, .int .i64 r.y1]] W fun e w' => e = .returned (.bool x) ∧ Below W.heap.size W w'))
    (GY : Hid (∀ W : World, Calls Try.prog 27 #[.agg #[.int .i64 s.x0, .int .i64 s.y0, .int .i64 s.x1, .int .i64 s.y1]] W fun e w' => e = .returned (.bool y) ∧ Below W.heap.size W w'))
    (GO : Hid (∀ W : World, Calls Try.prog 28 #[.agg #[.int .i64 r.x0, .int .i64 r.y0, .int .i64 r.x1, .int .i64 r.y1], .agg #[.int .i64 s.x0, .int .i64 s.y0, .int .i64 s.x1, .int .i64 s.y1]] W fun e w' => e = .returned (.bool ov) ∧ Below W.heap.size W w'))
    (KO : Hid (x = true → y = true → ∀ W : World, Calls Try.prog 29 #[.agg #[.int .i64 r.x0, .int .i64 r.y0, .int .i64 r.x1, .int .i64 r.y1], .agg #[.int .i64 s.x0, .int .i64 s.y0, .int .i64 s.x1, .int .i64 s.y1]] W fun e w' => e = .returned (.bool ov) ∧ Below W.heap.size W w'))
    (HO : Hid (x = false ∨ y = false → ov = false))
    (GJ : Hid (∀ W : World, Calls Try.prog 30 #[.agg #[.int .i64 r.x0, .int .i64 r.y0, .int .i64 r.x1, .int .i64 r.y1], .agg #[.int .i64 s.x0, .int .i64 s.y0, .int .i64 s.x1, .int .i64 s.y1]] W fun e w' => e = .returned (.agg #[.int .i64 j.x0, .int .i64 j.y0, .int .i64 j.x1, .int .i64 j.y1]) ∧ Below W.heap.size W w'))
    (KJ : Hid (x = true → y = true → ∀ W : World, Calls Try.prog 31 #[.agg #[.int .i64 r.x0, .int .i64 r.y0, .int .i64 r.x1, .int .i64 r.y1], .agg #[.int .i64 s.x0, .int .i64 s.y0, .int .i64 s.x1, .int .i64 s.y1]] W fun e w' => e = .returned (.agg #[.int .i64 j.x0, .int .i64 j.y0, .int .i64 j.x1, .int .i64 j.y1]) ∧ Below W.heap.size W w'))
    (HJ0 : Hid (x = false ∨ y = false → j = zeroR))
    (KM : Hid (∀ (p : Pt) (W : World), Calls Try.prog 11 #[.agg #[.int .i64 p.x, .int .i64 p.y]] W fun e w' => e = .returned (.bool (mayB p)) ∧ Below W.heap.size W w'))
    (GH : Hid (∀ (p : Pt) (W : World), Calls Try.prog 34 #[.agg #[.int .i64 r.x0, .int .i64 r.y0, .int .i64 r.x1, .int .i64 r.y1], .agg #[.int .i64 p.x, .int .i64 p.y]] W fun e w' => e = .returned (.bool (ovB r (justR p))) ∧ Below W.heap.size W w'))
    (KH : Hid (x = true → ∀ (p : Pt), mayB p = true → ∀ W : World, Calls Try.prog 35 #[.agg #[.int .i64 r.x0, .int .i64 r.y0, .int .i64 r.x1, .int .i64 r.y1], .agg #[.int .i64 p.x, .int .i64 p.y]] W fun e w' => e = .returned (.bool (ovB r (justR p))) ∧ Below W.heap.size W w'))
    (HH : Hid (∀ p : Pt, mayB p = false ∨ x = false → ovB r (justR p) = false))
    (GN : Hid (∀ (p : Pt) (W : World), Calls Try.prog 36 #[.agg #[.int .i64 r.x0, .int .i64 r.y0, .int .i64 r.x1, .int .i64 r.y1], .agg #[.int .i64 p.x, .int .i64 p.y]] W fun e w' => e = .returned (.int .u64 (nearI r p)) ∧ Below W.heap.size W w'))
    (KN : Hid (x = true → ∀ (p : Pt), mayB p = true → ∀ W : World, Calls Try.prog 32 #[.agg #[.int .i64 r.x0, .int .i64 r.y0, .int .i64 r.x1, .int .i64 r.y1], .agg #[.int .i64 p.x, .int .i64 p.y]] W fun e w' => e = .returned (.int .u64 (nearI r p)) ∧ Below W.heap.size W w'))
    (HNr : Hid (∀ p : Pt, mayB p = false ∨ x = false → nearI r p = 0))
    (GD : Hid (∀ (p q : Pt) (W : World), Calls Try.prog 37 #[.agg #[.int .i64 p.x, .int .i64 p.y], .agg #[.int .i64 q.x, .int .i64 q.y]] W fun e w' => e = .returned (.int .u64 (distI p q)) ∧ Below W.heap.size W w'))
    (KD : Hid (∀ (p q : Pt), mayB p = true → mayB q = true → ∀ W : World, Calls Try.prog 33 #[.agg #[.int .i64 p.x, .int .i64 p.y], .agg #[.int .i64 q.x, .int .i64 q.y]] W fun e w' => e = .returned (.int .u64 (distI p q)) ∧ Below W.heap.size W w'))
    (HD : Hid (∀ p q : Pt, mayB p = false ∨ mayB q = false → distI p q = 0)) (hx : x = false) :
    Calls Try.prog 5 #[.slice A n c, .agg #[.int .i64 r.x0, .int .i64 r.y0, .int .i64 r.x1, .int .i64 r.y1], .agg #[.int .i64 s.x0, .int .i64 s.y0, .int .i64 s.x1, .int .i64 s.y1]] w fun e w' => e = .returned (.bool true) ∧ Below w.heap.size w w' := by
  subst hx
  have KA := Lib.hid gAwake_any
  have hs1 : ¬ (100 : Int) < n := by omega
  obtain ⟨W0, hW⟩ : ∃ W0, W0 = ((w.alloc (.cells #[.int .i64 r.x0, .int .i64 r.y0, .int .i64 r.x1, .int .i64 r.y1] 36)).alloc (.cells #[.int .i64 s.x0, .int .i64 s.y0, .int .i64 s.x1, .int .i64 s.y1] 36)) := ⟨_, rfl⟩
  have PW := Lib.hid (show Below w.heap.size w W0 by rw [hW]; exact ((Below.refl _ _).alloc (Nat.le_refl _) _).alloc (by simp) _)
  have RB := Lib.hid (show RcAt W0 (w.heap.size) r ∧ RcAt W0 (w.heap.size + 1) s by
    rw [hW]
    have q := RcAt.new (w.alloc (.cells #[.int .i64 r.x0, .int .i64 r.y0, .int .i64 r.x1, .int .i64 r.y1] 36)) s
    rw [World.size_alloc] at q
    exact ⟨(RcAt.new w r).keep ((Below.refl (w.heap.size + 1) _).alloc (by simp) _) (by omega), q⟩)
  have RW := Lib.hid (show ∀ W : World, Below W0.heap.size W0 W → RcAt W (w.heap.size) r ∧ RcAt W (w.heap.size + 1) s ∧ Below w.heap.size w W from fun W l => ⟨RB.out.1.keep l RB.out.1.lt, RB.out.2.keep l RB.out.2.lt, PW.out.trans (l.mono PW.out.size)⟩)
  have O0 := Lib.hid (OwnC.empty 23 W0 W0.heap.size (Nat.le_refl _) (coP F))
  have L0 := Lib.hid (show Below W0.heap.size W0 (W0.alloc (.cells #[] 23)) from (Below.refl _ _).alloc (Nat.le_refl _) _)
  have X1 := Lib.hid ((HP.out.keep (RW.out _ L0.out).2.2).cells2)
  have HW := Lib.hid hW
  clear hW
  go_enter Try.func5, Try.ntmps5
  go_upto_region 1 with (fail)
  rw [← HW.out]
  go_wp2_with (at_builtin; with_reducible refine wpList_append_two (W0.alloc (.cells #[] 23)) rfl _ _ 26 23 (.agg #[.int .i64 0, .int .i64 0]) rfl rfl Try.underlying26 ptInfo W0.heap.size _ 0 0 _ rfl O0.out A n c _ rfl X1.out (coP_one F) HN.out (by omega) (by simp) ?d3)
  case d3 =>
    intro A' c' w1 o1 g1 _
    have o2 : OwnC 23 w1 W0.heap.size A' n c' (coP F) := by
      have h := o1.congr fun j _ => cat_co F 0 F j
      try rw [Nat.zero_add] at h
      exact h.congr fun j _ => by rw [show catP F 0 F = F by funext i; unfold catP; simp]
    have l1 : Below W0.heap.size W0 w1 := L0.out.trans ((Below.refl W0.heap.size _).grown g1 (by simp) fun k e => by injection e with e; exact Nat.le_of_eq e)
    have O1 := Lib.hid o2
    have L1 := Lib.hid l1
    clear o1 g1 o2 l1 O0 L0 X1
    have e0 : 0 + n = n := Nat.zero_add n
    go_wp2_with fail
    (with_reducible refine (KB.out _ _ _ _ O1.out).mono ?_); rintro _ w3 ⟨rfl, l3⟩
    have L3 := Lib.hid (L1.out.trans (l3.mono L1.out.size))
    clear l3 O1
    go_upto_region 4 with (fail)
    obtain ⟨Wb, hWb⟩ : ∃ Wb, Wb = w3.alloc (.cells #[.int .i64 b.x0, .int .i64 b.y0, .int .i64 b.x1, .int .i64 b.y1] 36) := ⟨_, rfl⟩
    have LB := Lib.hid (show Below W0.heap.size W0 Wb by rw [hWb]; exact L3.out.alloc L3.out.size _)
    have QB := Lib.hid (show RcAt Wb w3.heap.size b by rw [hWb]; exact RcAt.new w3 b)
    rw [← hWb]
    clear hWb L3 e0
    go_cut [9] (fun u W => u = .bool ok ∧ Below Wb.heap.size Wb W)
    case first =>
      by_cases h0 : n = 0
      · have hz : ok = false := HZ.out h0
        have h1 : ¬ (0 : Int) < n := by omega
        have HZ1 := Lib.hid hz
        clear h0 hz
        go_wp2_with fail
        go_meet
        exact ⟨by rw [HZ1.out], Below.refl _ _⟩
      · have h1 : (0 : Int) < n := by omega
        have h2 := KL.out (by omega)
        have H2 := Lib.hid h2
        clear h0 h2
        go_wp2_with fail
        (with_reducible refine (H2.out _ (RW.out _ LB.out).2.2).mono ?_); rintro _ w4 ⟨rfl, l4⟩
        go_wp2_with fail
        go_meet
        exact ⟨rfl, l4⟩
    case rest =>
      obtain ⟨rfl, hl⟩ := hcut
      have L5 := Lib.hid hl
      clear hl
      go_upto_region 5 with (fail)
      have PD := Lib.hid (show Below Wb.heap.size Wb wc.drew from L5.out.drew)
      have HOK := Lib.hid (show ok = ok from rfl)
      go_cut [55] (fun u W => u = .bool false ∧ Below Wb.heap.size Wb W)
      case first =>
        cases ok
        · obtain rfl := HB0.out rfl
          refine wp_region_held_drew (S := fun W => Below Wb.heap.size Wb W) (by kernel_rfl) (PD.out) (fun hHeld => ?_)
          refine wpAnyH_take (i := 0) (oi := { dst := some 35, op := Op.move (Operand.tmp 8), type := 4, pos := "law.go:55", after := #[], guard := none }) (v := ?_) rfl (by kernel_rfl) (by kernel_rfl) (by kernel_rfl) (fun _ _ _ h => h) (Or.inl ⟨by kernel_rfl, ?_⟩) (by with_reducible assumption) ?_
          rotate_left 1
          · (intro w0 hSw; (try dsimp only at hSw); go_simp; (try with_reducible rfl))
          simp only [Act.put, List.setIfInBounds_toArray, List.set_cons_zero, List.set_cons_succ]
          refine wpAnyH_take (i := 1) (oi := { dst := some 36, op := Op.move (Operand.tmp 9), type := 4, pos := "law.go:55", after := #[], guard := none }) (v := ?_) rfl (by kernel_rfl) (by kernel_rfl) (by kernel_rfl) (fun _ _ _ h => h) (Or.inl ⟨by kernel_rfl, ?_⟩) (by with_reducible assumption) ?_
          rotate_left 1
          · (intro w0 hSw; (try dsimp only at hSw); go_simp; (try with_reducible rfl))
          simp only [Act.put, List.setIfInBounds_toArray, List.set_cons_zero, List.set_cons_succ]
          refine wpAnyH_take (i := 2) (oi := { dst := some 37, op := Op.binOp BinOp.neq 4 (Operand.tmp 35) (Operand.tmp 36) 4, type := 4, pos := "law.go:55", after := #[{ on := 0, ground := Ground.data }, { on := 1, ground := Ground.data }], guard := none }) (v := ?_) rfl (by kernel_rfl) (by kernel_rfl) (by kernel_rfl) (fun _ _ _ h => h) (Or.inl ⟨by kernel_rfl, ?_⟩) (by with_reducible assumption) ?_
          rotate_left 1
          · (intro w0 hSw; (try dsimp only at hSw); go_simp; (try with_reducible rfl))
          simp only [Act.put, List.setIfInBounds_toArray, List.set_cons_zero, List.set_cons_succ]
          refine wpAnyH_take (i := 3) (oi := { dst := some 38, op := Op.move (Operand.tmp 37), type := 4, pos := "law.go:55", after := #[{ on := 2, ground := Ground.data }], guard := none }) (v := ?_) rfl (by kernel_rfl) (by kernel_rfl) (by kernel_rfl) (fun _ _ _ h => h) (Or.inl ⟨by kernel_rfl, ?_⟩) (by with_reducible assumption) ?_
          rotate_left 1
          · (intro w0 hSw; (try dsimp only at hSw); go_simp; (try with_reducible rfl))
          simp only [Act.put, List.setIfInBounds_toArray, List.set_cons_zero, List.set_cons_succ]
          refine wpAnyH_take (i := 4) (oi := { dst := some 39, op := Op.move (Operand.tmp 9), type := 4, pos := "law.go:55", after := #[{ on := 3, ground := Ground.guard }], guard := some (3, false) }) (v := ?_) rfl (by kernel_rfl) (by kernel_rfl) (by kernel_rfl) (fun _ _ _ h => h) (Or.inl ⟨by kernel_rfl, ?_⟩) (by with_reducible assumption) ?_
          rotate_left 1
          · (intro w0 hSw; (try dsimp only at hSw); go_simp; (try with_reducible rfl))
          simp only [Act.put, List.setIfInBounds_toArray, List.set_cons_zero, List.set_cons_succ]
          refine wpAnyH_take (i := 5) (oi := { dst := some 40, op := Op.move (Operand.tmp 39), type := 4, pos := "law.go:55", after := #[{ on := 4, ground := Ground.data }, { on := 3, ground := Ground.chain }, { on := 3, ground := Ground.guard }], guard := some (3, false) }) (v := ?_) rfl (by kernel_rfl) (by kernel_rfl) (by kernel_rfl) (fun _ _ _ h => h) (Or.inl ⟨by kernel_rfl, ?_⟩) (by with_reducible assumption) ?_
          rotate_left 1
          · (intro w0 hSw; (try dsimp only at hSw); go_simp; (try with_reducible rfl))
          simp only [Act.put, List.setIfInBounds_toArray, List.set_cons_zero, List.set_cons_succ]
          refine wpAnyH_take (i := 6) (oi := { dst := some 41, op := Op.load 36 (Operand.tmp 7), type := 36, pos := "law.go:55", after := #[{ on := 5, ground := Ground.guard }], guard := some (5, true) }) (v := undef) rfl (by kernel_rfl) (by kernel_rfl) (by kernel_rfl) (fun _ _ _ h => h) (Or.inr ⟨by kernel_rfl, rfl⟩) (by with_reducible assumption) ?_
          simp only [Act.put, List.setIfInBounds_toArray, List.set_cons_zero, List.set_cons_succ]
          refine wpAnyH_take (i := 7) (oi := { dst := some 42, op := Op.move (Operand.tmp 0), type := 26, pos := "law.go:55", after := #[{ on := 5, ground := Ground.guard }], guard := some (5, true) }) (v := undef) rfl (by kernel_rfl) (by kernel_rfl) (by kernel_rfl) (fun _ _ _ h => h) (Or.inr ⟨by kernel_rfl, rfl⟩) (by with_reducible assumption) ?_
          simp only [Act.put, List.setIfInBounds_toArray, List.set_cons_zero, List.set_cons_succ]
          refine wpAnyH_take (i := 8) (oi := { dst := some 43, op := Op.call { callee := Callee.value (Operand.func 25), args := #[Operand.tmp 42], argTypes := #[26] }, type := 36, pos := "law.go:55", after := #[{ on := 7, ground := Ground.data }, { on := 5, ground := Ground.chain }, { on := 5, ground := Ground.guard }], guard := some (5, true) }) (v := undef) rfl (by kernel_rfl) (by kernel_rfl) (by kernel_rfl) (fun _ _ _ h => h) (Or.inr ⟨by kernel_rfl, rfl⟩) (by with_reducible assumption) ?_
          simp only [Act.put, List.setIfInBounds_toArray, List.set_cons_zero, List.set_cons_succ]
          refine wpAnyH_take (i := 9) (oi := { dst := some 44, op := Op.binOp BinOp.neq 36 (Operand.tmp 41) (Operand.tmp 43) 36, type := 4, pos := "law.go:55", after := #[{ on := 6, ground := Ground.data }, { on := 8, ground := Ground.data }, { on := 5, ground := Ground.guard }], guard := some (5, true) }) (v := undef) rfl (by kernel_rfl) (by kernel_rfl) (by kernel_rfl) (fun _ _ _ h => h) (Or.inr ⟨by kernel_rfl, rfl⟩) (by with_reducible assumption) ?_
          simp only [Act.put, List.setIfInBounds_toArray, List.set_cons_zero, List.set_cons_succ]
          refine wpAnyH_take (i := 10) (oi := { dst := some 45, op := Op.pick (Operand.tmp 40) (Operand.tmp 44) (Operand.const (Value.bool false)), type := 4, pos := "law.go:55", after := #[{ on := 5, ground := Ground.data }, { on := 9, ground := Ground.data }, { on := 3, ground := Ground.guard }], guard := some (3, false) }) (v := ?_) rfl (by kernel_rfl) (by kernel_rfl) (by kernel_rfl) (fun _ _ _ h => h) (Or.inl ⟨by kernel_rfl, ?_⟩) (by with_reducible assumption) ?_
          rotate_left 1
          · (intro w0 hSw; (try dsimp only at hSw); go_simp; (try with_reducible rfl))
          simp only [Act.put, List.setIfInBounds_toArray, List.set_cons_zero, List.set_cons_succ]
          refine wpAnyH_take (i := 11) (oi := { dst := some 46, op := Op.pick (Operand.tmp 38) (Operand.const (Value.bool true)) (Operand.tmp 45), type := 4, pos := "law.go:55", after := #[{ on := 3, ground := Ground.data }, { on := 10, ground := Ground.data }], guard := none }) (v := ?_) rfl (by kernel_rfl) (by kernel_rfl) (by kernel_rfl) (fun _ _ _ h => h) (Or.inl ⟨by kernel_rfl, ?_⟩) (by with_reducible assumption) ?_
          rotate_left 1
          · (intro w0 hSw; (try dsimp only at hSw); go_simp; (try with_reducible rfl))
          simp only [Act.put, List.setIfInBounds_toArray, List.set_cons_zero, List.set_cons_succ]
          refine wpAnyH_take (i := 12) (oi := { dst := some 47, op := Op.move (Operand.tmp 46), type := 4, pos := "law.go:55", after := #[{ on := 11, ground := Ground.data }, { on := 8, ground := Ground.chain }], guard := none }) (v := ?_) rfl (by kernel_rfl) (by kernel_rfl) (by kernel_rfl) (fun _ _ _ h => h) (Or.inl ⟨by kernel_rfl, ?_⟩) (by with_reducible assumption) ?_
          rotate_left 1
          · (intro w0 hSw; (try dsimp only at hSw); go_simp; (try with_reducible rfl))
          simp only [Act.put, List.setIfInBounds_toArray, List.set_cons_zero, List.set_cons_succ]
          refine wpAnyH_take (i := 13) (oi := { dst := some 48, op := Op.move (Operand.tmp 9), type := 4, pos := "law.go:55", after := #[{ on := 12, ground := Ground.guard }], guard := some (12, false) }) (v := ?_) rfl (by kernel_rfl) (by kernel_rfl) (by kernel_rfl) (fun _ _ _ h => h) (Or.inl ⟨by kernel_rfl, ?_⟩) (by with_reducible assumption) ?_
          rotate_left 1
          · (intro w0 hSw; (try dsimp only at hSw); go_simp; (try with_reducible rfl))
          simp only [Act.put, List.setIfInBounds_toArray, List.set_cons_zero, List.set_cons_succ]
          refine wpAnyH_take (i := 14) (oi := { dst := some 49, op := Op.unOp UnOp.not 4 (Operand.tmp 48), type := 4, pos := "law.go:55", after := #[{ on := 13, ground := Ground.data }, { on := 12, ground := Ground.guard }], guard := some (12, false) }) (v := ?_) rfl (by kernel_rfl) (by kernel_rfl) (by kernel_rfl) (fun _ _ _ h => h) (Or.inl ⟨by kernel_rfl, ?_⟩) (by with_reducible assumption) ?_
          rotate_left 1
          · (intro w0 hSw; (try dsimp only at hSw); go_simp; (try with_reducible rfl))
          simp only [Act.put, List.setIfInBounds_toArray, List.set_cons_zero, List.set_cons_succ]
          refine wpAnyH_take (i := 15) (oi := { dst := some 50, op := Op.move (Operand.tmp 49), type := 4, pos := "law.go:55", after := #[{ on := 14, ground := Ground.data }, { on := 12, ground := Ground.chain }, { on := 12, ground := Ground.guard }], guard := some (12, false) }) (v := ?_) rfl (by kernel_rfl) (by kernel_rfl) (by kernel_rfl) (fun _ _ _ h => h) (Or.inl ⟨by kernel_rfl, ?_⟩) (by with_reducible assumption) ?_
          rotate_left 1
          · (intro w0 hSw; (try dsimp only at hSw); go_simp; (try with_reducible rfl))
          simp only [Act.put, List.setIfInBounds_toArray, List.set_cons_zero, List.set_cons_succ]
          refine wpAnyH_take (i := 16) (oi := { dst := some 51, op := Op.load 36 (Operand.tmp 7), type := 36, pos := "law.go:55", after := #[{ on := 15, ground := Ground.guard }], guard := some (15, true) }) (v := .agg #[.int .i64 0, .int .i64 0, .int .i64 0, .int .i64 0]) rfl (by kernel_rfl) (by kernel_rfl) (by kernel_rfl) (fun _ _ _ h => h) (yieldsIf_load_mid (by kernel_rfl) 36 (.tmp 7) rfl (w3.heap.size) (0) (by kernel_rfl) [.int .i64 0, .int .i64 0, .int .i64 0, .int .i64 0] _ (fun W hW => (QB.out.keep hW QB.out.lt).range) Try.underlying36 rfl (by kernel_rfl)) (by with_reducible assumption) ?_
          simp only [Act.put, List.setIfInBounds_toArray, List.set_cons_zero, List.set_cons_succ]
          refine wpAnyH_take (i := 17) (oi := { dst := some 52, op := Op.build 36 #[], type := 36, pos := "law.go:55", after := #[{ on := 15, ground := Ground.guard }], guard := some (15, true) }) (v := ?_) rfl (by kernel_rfl) (by kernel_rfl) (by kernel_rfl) (fun _ _ _ h => h) (Or.inl ⟨by kernel_rfl, ?_⟩) (by with_reducible assumption) ?_
          rotate_left 1
          · (intro w0 hSw; (try dsimp only at hSw); go_simp; (try with_reducible rfl))
          simp only [Act.put, List.setIfInBounds_toArray, List.set_cons_zero, List.set_cons_succ]
          refine wpAnyH_take (i := 18) (oi := { dst := some 53, op := Op.binOp BinOp.neq 36 (Operand.tmp 51) (Operand.tmp 52) 36, type := 4, pos := "law.go:55", after := #[{ on := 16, ground := Ground.data }, { on := 17, ground := Ground.data }, { on := 15, ground := Ground.guard }], guard := some (15, true) }) (v := ?_) rfl (by kernel_rfl) (by kernel_rfl) (by kernel_rfl) (fun _ _ _ h => h) (Or.inl ⟨by kernel_rfl, ?_⟩) (by with_reducible assumption) ?_
          rotate_left 1
          · (intro w0 hSw; (try dsimp only at hSw); go_simp; (try with_reducible rfl))
          simp only [Act.put, List.setIfInBounds_toArray, List.set_cons_zero, List.set_cons_succ]
          refine wpAnyH_take (i := 19) (oi := { dst := some 54, op := Op.pick (Operand.tmp 50) (Operand.tmp 53) (Operand.const (Value.bool false)), type := 4, pos := "law.go:55", after := #[{ on := 15, ground := Ground.data }, { on := 18, ground := Ground.data }, { on := 12, ground := Ground.guard }], guard := some (12, false) }) (v := ?_) rfl (by kernel_rfl) (by kernel_rfl) (by kernel_rfl) (fun _ _ _ h => h) (Or.inl ⟨by kernel_rfl, ?_⟩) (by with_reducible assumption) ?_
          rotate_left 1
          · (intro w0 hSw; (try dsimp only at hSw); go_simp; (try with_reducible rfl))
          simp only [Act.put, List.setIfInBounds_toArray, List.set_cons_zero, List.set_cons_succ]
          refine wpAnyH_take (i := 20) (oi := { dst := some 55, op := Op.pick (Operand.tmp 47) (Operand.const (Value.bool true)) (Operand.tmp 54), type := 4, pos := "law.go:55", after := #[{ on := 12, ground := Ground.data }, { on := 19, ground := Ground.data }], guard := none }) (v := ?_) rfl (by kernel_rfl) (by kernel_rfl) (by kernel_rfl) (fun _ _ _ h => h) (Or.inl ⟨by kernel_rfl, ?_⟩) (by with_reducible assumption) ?_
          rotate_left 1
          · (intro w0 hSw; (try dsimp only at hSw); go_simp; (try with_reducible rfl))
          simp only [Act.put, List.setIfInBounds_toArray, List.set_cons_zero, List.set_cons_succ]
          refine wpAnyH_done (by kernel_rfl) ?_ _
          go_wp2_with fail
          go_meet
          exact ⟨rfl, by with_reducible assumption⟩
        · refine wp_region_held_drew (S := fun W => Below Wb.heap.size Wb W) (by kernel_rfl) (PD.out) (fun hHeld => ?_)
          refine wpAnyH_take (i := 0) (oi := { dst := some 35, op := Op.move (Operand.tmp 8), type := 4, pos := "law.go:55", after := #[], guard := none }) (v := ?_) rfl (by kernel_rfl) (by kernel_rfl) (by kernel_rfl) (fun _ _ _ h => h) (Or.inl ⟨by kernel_rfl, ?_⟩) (by with_reducible assumption) ?_
          rotate_left 1
          · (intro w0 hSw; (try dsimp only at hSw); go_simp; (try with_reducible rfl))
          simp only [Act.put, List.setIfInBounds_toArray, List.set_cons_zero, List.set_cons_succ]
          refine wpAnyH_take (i := 1) (oi := { dst := some 36, op := Op.move (Operand.tmp 9), type := 4, pos := "law.go:55", after := #[], guard := none }) (v := ?_) rfl (by kernel_rfl) (by kernel_rfl) (by kernel_rfl) (fun _ _ _ h => h) (Or.inl ⟨by kernel_rfl, ?_⟩) (by with_reducible assumption) ?_
          rotate_left 1
          · (intro w0 hSw; (try dsimp only at hSw); go_simp; (try with_reducible rfl))
          simp only [Act.put, List.setIfInBounds_toArray, List.set_cons_zero, List.set_cons_succ]
          refine wpAnyH_take (i := 2) (oi := { dst := some 37, op := Op.binOp BinOp.neq 4 (Operand.tmp 35) (Operand.tmp 36) 4, type := 4, pos := "law.go:55", after := #[{ on := 0, ground := Ground.data }, { on := 1, ground := Ground.data }], guard := none }) (v := ?_) rfl (by kernel_rfl) (by kernel_rfl) (by kernel_rfl) (fun _ _ _ h => h) (Or.inl ⟨by kernel_rfl, ?_⟩) (by with_reducible assumption) ?_
          rotate_left 1
          · (intro w0 hSw; (try dsimp only at hSw); go_simp; (try with_reducible rfl))
          simp only [Act.put, List.setIfInBounds_toArray, List.set_cons_zero, List.set_cons_succ]
          refine wpAnyH_take (i := 3) (oi := { dst := some 38, op := Op.move (Operand.tmp 37), type := 4, pos := "law.go:55", after := #[{ on := 2, ground := Ground.data }], guard := none }) (v := ?_) rfl (by kernel_rfl) (by kernel_rfl) (by kernel_rfl) (fun _ _ _ h => h) (Or.inl ⟨by kernel_rfl, ?_⟩) (by with_reducible assumption) ?_
          rotate_left 1
          · (intro w0 hSw; (try dsimp only at hSw); go_simp; (try with_reducible rfl))
          simp only [Act.put, List.setIfInBounds_toArray, List.set_cons_zero, List.set_cons_succ]
          refine wpAnyH_take (i := 4) (oi := { dst := some 39, op := Op.move (Operand.tmp 9), type := 4, pos := "law.go:55", after := #[{ on := 3, ground := Ground.guard }], guard := some (3, false) }) (v := ?_) rfl (by kernel_rfl) (by kernel_rfl) (by kernel_rfl) (fun _ _ _ h => h) (Or.inl ⟨by kernel_rfl, ?_⟩) (by with_reducible assumption) ?_
          rotate_left 1
          · (intro w0 hSw; (try dsimp only at hSw); go_simp; (try with_reducible rfl))
          simp only [Act.put, List.setIfInBounds_toArray, List.set_cons_zero, List.set_cons_succ]
          refine wpAnyH_take (i := 5) (oi := { dst := some 40, op := Op.move (Operand.tmp 39), type := 4, pos := "law.go:55", after := #[{ on := 4, ground := Ground.data }, { on := 3, ground := Ground.chain }, { on := 3, ground := Ground.guard }], guard := some (3, false) }) (v := ?_) rfl (by kernel_rfl) (by kernel_rfl) (by kernel_rfl) (fun _ _ _ h => h) (Or.inl ⟨by kernel_rfl, ?_⟩) (by with_reducible assumption) ?_
          rotate_left 1
          · (intro w0 hSw; (try dsimp only at hSw); go_simp; (try with_reducible rfl))
          simp only [Act.put, List.setIfInBounds_toArray, List.set_cons_zero, List.set_cons_succ]
          refine wpAnyH_take (i := 6) (oi := { dst := some 41, op := Op.load 36 (Operand.tmp 7), type := 36, pos := "law.go:55", after := #[{ on := 5, ground := Ground.guard }], guard := some (5, true) }) (v := .agg #[.int .i64 b.x0, .int .i64 b.y0, .int .i64 b.x1, .int .i64 b.y1]) rfl (by kernel_rfl) (by kernel_rfl) (by kernel_rfl) (fun _ _ _ h => h) (yieldsIf_load_mid (by kernel_rfl) 36 (.tmp 7) rfl (w3.heap.size) (0) (by kernel_rfl) [.int .i64 b.x0, .int .i64 b.y0, .int .i64 b.x1, .int .i64 b.y1] _ (fun W hW => (QB.out.keep hW QB.out.lt).range) Try.underlying36 rfl (by kernel_rfl)) (by with_reducible assumption) ?_
          simp only [Act.put, List.setIfInBounds_toArray, List.set_cons_zero, List.set_cons_succ]
          refine wpAnyH_take (i := 7) (oi := { dst := some 42, op := Op.move (Operand.tmp 0), type := 26, pos := "law.go:55", after := #[{ on := 5, ground := Ground.guard }], guard := some (5, true) }) (v := ?_) rfl (by kernel_rfl) (by kernel_rfl) (by kernel_rfl) (fun _ _ _ h => h) (Or.inl ⟨by kernel_rfl, ?_⟩) (by with_reducible assumption) ?_
          rotate_left 1
          · (intro w0 hSw; (try dsimp only at hSw); go_simp; (try with_reducible rfl))
          simp only [Act.put, List.setIfInBounds_toArray, List.set_cons_zero, List.set_cons_succ]
          refine wpAnyH_ready (rs := [8]) (by kernel_rfl) (by simp) ?_
          refine AllReadyH.cons (o := { dst := some 43, op := Op.call { callee := Callee.value (Operand.func 25), args := #[Operand.tmp 42], argTypes := #[26] }, type := 36, pos := "law.go:55", after := #[{ on := 7, ground := Ground.data }, { on := 5, ground := Ground.chain }, { on := 5, ground := Ground.guard }], guard := some (5, true) }) rfl (fun K hK => ?_) AllReadyH.nil
          go_simp
          go_wp2_with (go_at_call 25; (with_reducible refine (KR.out (by trivial) _ (RW.out _ (LB.out.trans (PD.out.mono LB.out.size))).2.2).mono ?_); rintro _ w6 ⟨rfl, l⟩; have hS6 := PD.out.trans (l.mono PD.out.size); clear l)
          refine hK.out _ _ (by with_reducible assumption) (fun hHeld => ?_)
          clear hK K
          refine wpAnyH_take (i := 9) (oi := { dst := some 44, op := Op.binOp BinOp.neq 36 (Operand.tmp 41) (Operand.tmp 43) 36, type := 4, pos := "law.go:55", after := #[{ on := 6, ground := Ground.data }, { on := 8, ground := Ground.data }, { on := 5, ground := Ground.guard }], guard := some (5, true) }) (v := ?_) rfl (by kernel_rfl) (by kernel_rfl) (by kernel_rfl) (fun _ _ _ h => h) (Or.inl ⟨by kernel_rfl, ?_⟩) (by with_reducible assumption) ?_
          rotate_left 1
          · (intro w0 hSw; (try dsimp only at hSw); go_simp; (try with_reducible rfl))
          simp only [Act.put, List.setIfInBounds_toArray, List.set_cons_zero, List.set_cons_succ]
          refine wpAnyH_take (i := 10) (oi := { dst := some 45, op := Op.pick (Operand.tmp 40) (Operand.tmp 44) (Operand.const (Value.bool false)), type := 4, pos := "law.go:55", after := #[{ on := 5, ground := Ground.data }, { on := 9, ground := Ground.data }, { on := 3, ground := Ground.guard }], guard := some (3, false) }) (v := ?_) rfl (by kernel_rfl) (by kernel_rfl) (by kernel_rfl) (fun _ _ _ h => h) (Or.inl ⟨by kernel_rfl, ?_⟩) (by with_reducible assumption) ?_
          rotate_left 1
          · (intro w0 hSw; (try dsimp only at hSw); go_simp; (try with_reducible rfl))
          simp only [Act.put, List.setIfInBounds_toArray, List.set_cons_zero, List.set_cons_succ]
          refine wpAnyH_take (i := 11) (oi := { dst := some 46, op := Op.pick (Operand.tmp 38) (Operand.const (Value.bool true)) (Operand.tmp 45), type := 4, pos := "law.go:55", after := #[{ on := 3, ground := Ground.data }, { on := 10, ground := Ground.data }], guard := none }) (v := ?_) rfl (by kernel_rfl) (by kernel_rfl) (by kernel_rfl) (fun _ _ _ h => h) (Or.inl ⟨by kernel_rfl, ?_⟩) (by with_reducible assumption) ?_
          rotate_left 1
          · (intro w0 hSw; (try dsimp only at hSw); go_simp; (try with_reducible rfl))
          simp only [Act.put, List.setIfInBounds_toArray, List.set_cons_zero, List.set_cons_succ]
          refine wpAnyH_take (i := 12) (oi := { dst := some 47, op := Op.move (Operand.tmp 46), type := 4, pos := "law.go:55", after := #[{ on := 11, ground := Ground.data }, { on := 8, ground := Ground.chain }], guard := none }) (v := ?_) rfl (by kernel_rfl) (by kernel_rfl) (by kernel_rfl) (fun _ _ _ h => h) (Or.inl ⟨by kernel_rfl, ?_⟩) (by with_reducible assumption) ?_
          rotate_left 1
          · (intro w0 hSw; (try dsimp only at hSw); go_simp; (try with_reducible rfl))
          simp only [Act.put, List.setIfInBounds_toArray, List.set_cons_zero, List.set_cons_succ]
          refine wpAnyH_take (i := 13) (oi := { dst := some 48, op := Op.move (Operand.tmp 9), type := 4, pos := "law.go:55", after := #[{ on := 12, ground := Ground.guard }], guard := some (12, false) }) (v := ?_) rfl (by kernel_rfl) (by kernel_rfl) (by kernel_rfl) (fun _ _ _ h => h) (Or.inl ⟨by kernel_rfl, ?_⟩) (by with_reducible assumption) ?_
          rotate_left 1
          · (intro w0 hSw; (try dsimp only at hSw); go_simp; (try with_reducible rfl))
          simp only [Act.put, List.setIfInBounds_toArray, List.set_cons_zero, List.set_cons_succ]
          refine wpAnyH_take (i := 14) (oi := { dst := some 49, op := Op.unOp UnOp.not 4 (Operand.tmp 48), type := 4, pos := "law.go:55", after := #[{ on := 13, ground := Ground.data }, { on := 12, ground := Ground.guard }], guard := some (12, false) }) (v := ?_) rfl (by kernel_rfl) (by kernel_rfl) (by kernel_rfl) (fun _ _ _ h => h) (Or.inl ⟨by kernel_rfl, ?_⟩) (by with_reducible assumption) ?_
          rotate_left 1
          · (intro w0 hSw; (try dsimp only at hSw); go_simp; (try with_reducible rfl))
          simp only [Act.put, List.setIfInBounds_toArray, List.set_cons_zero, List.set_cons_succ]
          refine wpAnyH_take (i := 15) (oi := { dst := some 50, op := Op.move (Operand.tmp 49), type := 4, pos := "law.go:55", after := #[{ on := 14, ground := Ground.data }, { on := 12, ground := Ground.chain }, { on := 12, ground := Ground.guard }], guard := some (12, false) }) (v := ?_) rfl (by kernel_rfl) (by kernel_rfl) (by kernel_rfl) (fun _ _ _ h => h) (Or.inl ⟨by kernel_rfl, ?_⟩) (by with_reducible assumption) ?_
          rotate_left 1
          · (intro w0 hSw; (try dsimp only at hSw); go_simp; (try with_reducible rfl))
          simp only [Act.put, List.setIfInBounds_toArray, List.set_cons_zero, List.set_cons_succ]
          refine wpAnyH_take (i := 16) (oi := { dst := some 51, op := Op.load 36 (Operand.tmp 7), type := 36, pos := "law.go:55", after := #[{ on := 15, ground := Ground.guard }], guard := some (15, true) }) (v := undef) rfl (by kernel_rfl) (by kernel_rfl) (by kernel_rfl) (fun _ _ _ h => h) (Or.inr ⟨by kernel_rfl, rfl⟩) (by with_reducible assumption) ?_
          simp only [Act.put, List.setIfInBounds_toArray, List.set_cons_zero, List.set_cons_succ]
          refine wpAnyH_take (i := 17) (oi := { dst := some 52, op := Op.build 36 #[], type := 36, pos := "law.go:55", after := #[{ on := 15, ground := Ground.guard }], guard := some (15, true) }) (v := undef) rfl (by kernel_rfl) (by kernel_rfl) (by kernel_rfl) (fun _ _ _ h => h) (Or.inr ⟨by kernel_rfl, rfl⟩) (by with_reducible assumption) ?_
          simp only [Act.put, List.setIfInBounds_toArray, List.set_cons_zero, List.set_cons_succ]
          refine wpAnyH_take (i := 18) (oi := { dst := some 53, op := Op.binOp BinOp.neq 36 (Operand.tmp 51) (Operand.tmp 52) 36, type := 4, pos := "law.go:55", after := #[{ on := 16, ground := Ground.data }, { on := 17, ground := Ground.data }, { on := 15, ground := Ground.guard }], guard := some (15, true) }) (v := undef) rfl (by kernel_rfl) (by kernel_rfl) (by kernel_rfl) (fun _ _ _ h => h) (Or.inr ⟨by kernel_rfl, rfl⟩) (by with_reducible assumption) ?_
          simp only [Act.put, List.setIfInBounds_toArray, List.set_cons_zero, List.set_cons_succ]
          refine wpAnyH_take (i := 19) (oi := { dst := some 54, op := Op.pick (Operand.tmp 50) (Operand.tmp 53) (Operand.const (Value.bool false)), type := 4, pos := "law.go:55", after := #[{ on := 15, ground := Ground.data }, { on := 18, ground := Ground.data }, { on := 12, ground := Ground.guard }], guard := some (12, false) }) (v := ?_) rfl (by kernel_rfl) (by kernel_rfl) (by kernel_rfl) (fun _ _ _ h => h) (Or.inl ⟨by kernel_rfl, ?_⟩) (by with_reducible assumption) ?_
          rotate_left 1
          · (intro w0 hSw; (try dsimp only at hSw); go_simp; (try with_reducible rfl))
          simp only [Act.put, List.setIfInBounds_toArray, List.set_cons_zero, List.set_cons_succ]
          refine wpAnyH_take (i := 20) (oi := { dst := some 55, op := Op.pick (Operand.tmp 47) (Operand.const (Value.bool true)) (Operand.tmp 54), type := 4, pos := "law.go:55", after := #[{ on := 12, ground := Ground.data }, { on := 19, ground := Ground.data }], guard := none }) (v := ?_) rfl (by kernel_rfl) (by kernel_rfl) (by kernel_rfl) (fun _ _ _ h => h) (Or.inl ⟨by kernel_rfl, ?_⟩) (by with_reducible assumption) ?_
          rotate_left 1
          · (intro w0 hSw; (try dsimp only at hSw); go_simp; (try with_reducible rfl))
          simp only [Act.put, List.setIfInBounds_toArray, List.set_cons_zero, List.set_cons_succ]
          refine wpAnyH_done (by kernel_rfl) ?_ _
          go_wp2_with fail
          go_meet
          exact ⟨rfl, hS6⟩
      case rest =>
        obtain ⟨rfl, hl⟩ := hcut
        have L6 := Lib.hid (LB.out.trans (hl.mono LB.out.size))
        clear hl
        go_upto_region 7 with (fail)
        have PE := Lib.hid (show Below W0.heap.size W0 wc.drew from L6.out.drew)
        refine wp_region_held_drew (S := fun W => Below W0.heap.size W0 W) (by kernel_rfl) (PE.out) (fun hHeld => ?_)
        refine wpAnyH_take (i := 0) (oi := { dst := some 56, op := Op.load 36 (Operand.tmp 4), type := 36, pos := "law.go:58", after := #[], guard := none }) (v := .agg #[.int .i64 r.x0, .int .i64 r.y0, .int .i64 r.x1, .int .i64 r.y1]) rfl (by kernel_rfl) (by kernel_rfl) (by kernel_rfl) (fun _ _ _ h => h) (yieldsIf_load_mid (by kernel_rfl) 36 (.tmp 4) rfl (w.heap.size) (0) (by kernel_rfl) [.int .i64 r.x0, .int .i64 r.y0, .int .i64 r.x1, .int .i64 r.y1] _ (fun W hW => (RW.out _ hW).1.range) Try.underlying36 rfl (by kernel_rfl)) (by with_reducible assumption) ?_
        simp only [Act.put, List.setIfInBounds_toArray, List.set_cons_zero, List.set_cons_succ]
        refine wpAnyH_take (i := 2) (oi := { dst := some 58, op := Op.load 36 (Operand.tmp 5), type := 36, pos := "law.go:58", after := #[], guard := none }) (v := .agg #[.int .i64 s.x0, .int .i64 s.y0, .int .i64 s.x1, .int .i64 s.y1]) rfl (by kernel_rfl) (by kernel_rfl) (by kernel_rfl) (fun _ _ _ h => h) (yieldsIf_load_mid (by kernel_rfl) 36 (.tmp 5) rfl (w.heap.size + 1) (0) (by kernel_rfl) [.int .i64 s.x0, .int .i64 s.y0, .int .i64 s.x1, .int .i64 s.y1] _ (fun W hW => (RW.out _ hW).2.1.range) Try.underlying36 rfl (by kernel_rfl)) (by with_reducible assumption) ?_
        simp only [Act.put, List.setIfInBounds_toArray, List.set_cons_zero, List.set_cons_succ]
        refine wpAnyH_ready (rs := [1]) (by kernel_rfl) (by simp) ?_
        refine AllReadyH.cons (o := { dst := some 57, op := Op.call { callee := Callee.value (Operand.func 26), args := #[Operand.tmp 56], argTypes := #[36] }, type := 4, pos := "law.go:58", after := #[{ on := 0, ground := Ground.data }], guard := none }) rfl (fun K hK => ?_) AllReadyH.nil
        go_simp
        go_wp2_with (go_at_call 26; (with_reducible refine (KX.out _).mono ?_); rintro _ w7 ⟨rfl, l⟩; have hSx := PE.out.trans (l.mono PE.out.size); have P7 := Lib.hid hSx; clear l)
        refine hK.out _ _ (by with_reducible assumption) (fun hHeld => ?_)
        clear hK K
        refine wpAnyH_ready (rs := [3]) (by kernel_rfl) (by simp) ?_
        refine AllReadyH.cons (o := { dst := some 59, op := Op.call { callee := Callee.value (Operand.func 26), args := #[Operand.tmp 58], argTypes := #[36] }, type := 4, pos := "law.go:58", after := #[{ on := 2, ground := Ground.data }, { on := 1, ground := Ground.chain }], guard := none }) rfl (fun K hK => ?_) AllReadyH.nil
        go_simp
        go_wp2_with (go_at_call 26; (with_reducible refine (KY.out _).mono ?_); rintro _ w8 ⟨rfl, l⟩; have hSy := P7.out.trans (l.mono P7.out.size); have P8 := Lib.hid hSy; clear l)
        refine hK.out _ _ (by with_reducible assumption) (fun hHeld => ?_)
        clear hK K
        refine wpAnyH_ready (rs := [4]) (by kernel_rfl) (by simp) ?_
        refine AllReadyH.cons (o := { dst := some 10, op := Op.assign (Operand.tmp 57), type := 4, pos := "law.go:58", after := #[{ on := 1, ground := Ground.data }, { on := 3, ground := Ground.chain }, { on := 0, ground := Ground.phase }, { on := 1, ground := Ground.phase }, { on := 2, ground := Ground.textOnly Departure.lateStores }, { on := 3, ground := Ground.textOnly Departure.lateStoresUnsure }], guard := none }) rfl (fun K hK => ?_) AllReadyH.nil
        go_simp
        refine hK.out _ _ (by with_reducible assumption) (fun hHeld => ?_)
        clear hK K
        refine wpAnyH_ready (rs := [5]) (by kernel_rfl) (by simp) ?_
        refine AllReadyH.cons (o := { dst := some 11, op := Op.assign (Operand.tmp 59), type := 4, pos := "law.go:58", after := #[{ on := 3, ground := Ground.data }, { on := 4, ground := Ground.chain }, { on := 0, ground := Ground.phase }, { on := 1, ground := Ground.phase }, { on := 2, ground := Ground.phase }, { on := 3, ground := Ground.phase }, { on := 4, ground := Ground.phase }], guard := none }) rfl (fun K hK => ?_) AllReadyH.nil
        go_simp
        refine hK.out _ _ (by with_reducible assumption) (fun hHeld => ?_)
        clear hK K
        refine wpAnyH_done (by kernel_rfl) ?_ _
        clear hHeld hSx hSy
        go_upto_region 8 with (fail)
        go_cut [84] (fun u W => u = .bool false ∧ Below W0.heap.size W0 W)
        case first =>
          cases y
          · obtain rfl := HO.out (by simp)
            obtain ⟨q0, q1, _⟩ := RW.out _ P8.out
            obtain ⟨c0, c1, c2, c3⟩ := q0.cells
            obtain ⟨d0, d1, d2, d3⟩ := q1.cells
            clear q0 q1
            go_wp2_with fail
            clear c0 c1 c2 c3 d0 d1 d2 d3
            (with_reducible refine (GX.out _).mono ?_); rintro _ v1 ⟨rfl, l⟩
            have Q1 := Lib.hid (P8.out.trans (l.mono P8.out.size))
            clear l
            obtain ⟨q0, q1, _⟩ := RW.out _ Q1.out
            obtain ⟨c0, c1, c2, c3⟩ := q0.cells
            obtain ⟨d0, d1, d2, d3⟩ := q1.cells
            clear q0 q1
            go_wp2_with fail
            clear c0 c1 c2 c3 d0 d1 d2 d3
            (with_reducible refine (GY.out _).mono ?_); rintro _ v2 ⟨rfl, l⟩
            have Q2 := Lib.hid (Q1.out.trans (l.mono Q1.out.size))
            clear l
            obtain ⟨q0, q1, _⟩ := RW.out _ Q2.out
            obtain ⟨c0, c1, c2, c3⟩ := q0.cells
            obtain ⟨d0, d1, d2, d3⟩ := q1.cells
            clear q0 q1
            go_wp2_with fail
            clear c0 c1 c2 c3 d0 d1 d2 d3
            (with_reducible refine (GO.out _).mono ?_); rintro _ v3 ⟨rfl, l⟩
            have Q3 := Lib.hid (Q2.out.trans (l.mono Q2.out.size))
            clear l
            go_wp2_with fail
            go_meet
            exact ⟨rfl, Q3.out⟩
          · obtain rfl := HO.out (by simp)
            obtain ⟨q0, q1, _⟩ := RW.out _ P8.out
            obtain ⟨c0, c1, c2, c3⟩ := q0.cells
            obtain ⟨d0, d1, d2, d3⟩ := q1.cells
            clear q0 q1
            go_wp2_with fail
            clear c0 c1 c2 c3 d0 d1 d2 d3
            (with_reducible refine (GX.out _).mono ?_); rintro _ v1 ⟨rfl, l⟩
            have Q1 := Lib.hid (P8.out.trans (l.mono P8.out.size))
            clear l
            obtain ⟨q0, q1, _⟩ := RW.out _ Q1.out
            obtain ⟨c0, c1, c2, c3⟩ := q0.cells
            obtain ⟨d0, d1, d2, d3⟩ := q1.cells
            clear q0 q1
            go_wp2_with fail
            clear c0 c1 c2 c3 d0 d1 d2 d3
            (with_reducible refine (GY.out _).mono ?_); rintro _ v2 ⟨rfl, l⟩
            have Q2 := Lib.hid (Q1.out.trans (l.mono Q1.out.size))
            clear l
            obtain ⟨q0, q1, _⟩ := RW.out _ Q2.out
            obtain ⟨c0, c1, c2, c3⟩ := q0.cells
            obtain ⟨d0, d1, d2, d3⟩ := q1.cells
            clear q0 q1
            go_wp2_with fail
            clear c0 c1 c2 c3 d0 d1 d2 d3
            (with_reducible refine (GO.out _).mono ?_); rintro _ v3 ⟨rfl, l⟩
            have Q3 := Lib.hid (Q2.out.trans (l.mono Q2.out.size))
            clear l
            go_wp2_with fail
            go_meet
            exact ⟨rfl, Q3.out⟩
        case rest =>
          obtain ⟨rfl, hl⟩ := hcut
          have L9 := Lib.hid hl
          clear hl
          obtain ⟨q0, q1, _⟩ := RW.out _ L9.out
          obtain ⟨c0, c1, c2, c3⟩ := q0.cells
          obtain ⟨d0, d1, d2, d3⟩ := q1.cells
          clear q0 q1
          go_wp2_with fail
          (with_reducible refine (GJ.out _).mono ?_); rintro _ w10 ⟨rfl, l10⟩
          have L10 := Lib.hid (L9.out.trans (l10.mono L9.out.size))
          clear l10 c0 c1 c2 c3 d0 d1 d2 d3
          go_upto_region 11 with (fail)
          obtain ⟨Wk, hWk⟩ : ∃ Wk, Wk = w10.alloc (.cells #[.int .i64 j.x0, .int .i64 j.y0, .int .i64 j.x1, .int .i64 j.y1] 36) := ⟨_, rfl⟩
          have LK := Lib.hid (show Below W0.heap.size W0 Wk by rw [hWk]; exact L10.out.alloc L10.out.size _)
          have QJ := Lib.hid (show RcAt Wk w10.heap.size j by rw [hWk]; exact RcAt.new w10 j)
          rw [← hWk]
          clear hWk L10
          have PK := Lib.hid (show Below Wk.heap.size Wk Wk.drew from (Below.refl _ _).drew)
          go_cut [110] (fun u W => u = .bool false ∧ Below Wk.heap.size Wk W)
          case first =>
            cases y
            · obtain rfl := HJ0.out (by simp)
              refine wp_region_held_drew (S := fun W => Below Wk.heap.size Wk W) (by kernel_rfl) (PK.out) (fun hHeld => ?_)
              refine wpAnyH_take (i := 0) (oi := { dst := some 88, op := Op.move (Operand.tmp 10), type := 4, pos := "law.go:62", after := #[], guard := none }) (v := ?_) rfl (by kernel_rfl) (by kernel_rfl) (by kernel_rfl) (fun _ _ _ h => h) (Or.inl ⟨by kernel_rfl, ?_⟩) (by with_reducible assumption) ?_
              rotate_left 1
              · (intro w0 hSw; (try dsimp only at hSw); go_simp; (try with_reducible rfl))
              simp only [Act.put, List.setIfInBounds_toArray, List.set_cons_zero, List.set_cons_succ]
              refine wpAnyH_take (i := 1) (oi := { dst := some 89, op := Op.move (Operand.tmp 88), type := 4, pos := "law.go:62", after := #[{ on := 0, ground := Ground.data }], guard := none }) (v := ?_) rfl (by kernel_rfl) (by kernel_rfl) (by kernel_rfl) (fun _ _ _ h => h) (Or.inl ⟨by kernel_rfl, ?_⟩) (by with_reducible assumption) ?_
              rotate_left 1
              · (intro w0 hSw; (try dsimp only at hSw); go_simp; (try with_reducible rfl))
              simp only [Act.put, List.setIfInBounds_toArray, List.set_cons_zero, List.set_cons_succ]
              refine wpAnyH_take (i := 2) (oi := { dst := some 90, op := Op.move (Operand.tmp 11), type := 4, pos := "law.go:62", after := #[{ on := 1, ground := Ground.guard }], guard := some (1, true) }) (v := undef) rfl (by kernel_rfl) (by kernel_rfl) (by kernel_rfl) (fun _ _ _ h => h) (Or.inr ⟨by kernel_rfl, rfl⟩) (by with_reducible assumption) ?_
              simp only [Act.put, List.setIfInBounds_toArray, List.set_cons_zero, List.set_cons_succ]
              refine wpAnyH_take (i := 3) (oi := { dst := some 91, op := Op.pick (Operand.tmp 89) (Operand.tmp 90) (Operand.const (Value.bool false)), type := 4, pos := "law.go:62", after := #[{ on := 1, ground := Ground.data }, { on := 2, ground := Ground.data }], guard := none }) (v := ?_) rfl (by kernel_rfl) (by kernel_rfl) (by kernel_rfl) (fun _ _ _ h => h) (Or.inl ⟨by kernel_rfl, ?_⟩) (by with_reducible assumption) ?_
              rotate_left 1
              · (intro w0 hSw; (try dsimp only at hSw); go_simp; (try with_reducible rfl))
              simp only [Act.put, List.setIfInBounds_toArray, List.set_cons_zero, List.set_cons_succ]
              refine wpAnyH_take (i := 4) (oi := { dst := some 92, op := Op.move (Operand.tmp 91), type := 4, pos := "law.go:62", after := #[{ on := 3, ground := Ground.data }, { on := 1, ground := Ground.chain }], guard := none }) (v := ?_) rfl (by kernel_rfl) (by kernel_rfl) (by kernel_rfl) (fun _ _ _ h => h) (Or.inl ⟨by kernel_rfl, ?_⟩) (by with_reducible assumption) ?_
              rotate_left 1
              · (intro w0 hSw; (try dsimp only at hSw); go_simp; (try with_reducible rfl))
              simp only [Act.put, List.setIfInBounds_toArray, List.set_cons_zero, List.set_cons_succ]
              refine wpAnyH_take (i := 5) (oi := { dst := some 93, op := Op.load 36 (Operand.tmp 12), type := 36, pos := "law.go:62", after := #[{ on := 4, ground := Ground.guard }], guard := some (4, true) }) (v := undef) rfl (by kernel_rfl) (by kernel_rfl) (by kernel_rfl) (fun _ _ _ h => h) (Or.inr ⟨by kernel_rfl, rfl⟩) (by with_reducible assumption) ?_
              simp only [Act.put, List.setIfInBounds_toArray, List.set_cons_zero, List.set_cons_succ]
              refine wpAnyH_take (i := 6) (oi := { dst := some 94, op := Op.load 36 (Operand.tmp 4), type := 36, pos := "law.go:62", after := #[{ on := 4, ground := Ground.guard }], guard := some (4, true) }) (v := undef) rfl (by kernel_rfl) (by kernel_rfl) (by kernel_rfl) (fun _ _ _ h => h) (Or.inr ⟨by kernel_rfl, rfl⟩) (by with_reducible assumption) ?_
              simp only [Act.put, List.setIfInBounds_toArray, List.set_cons_zero, List.set_cons_succ]
              refine wpAnyH_take (i := 7) (oi := { dst := some 95, op := Op.load 36 (Operand.tmp 5), type := 36, pos := "law.go:62", after := #[{ on := 4, ground := Ground.guard }], guard := some (4, true) }) (v := undef) rfl (by kernel_rfl) (by kernel_rfl) (by kernel_rfl) (fun _ _ _ h => h) (Or.inr ⟨by kernel_rfl, rfl⟩) (by with_reducible assumption) ?_
              simp only [Act.put, List.setIfInBounds_toArray, List.set_cons_zero, List.set_cons_succ]
              refine wpAnyH_take (i := 8) (oi := { dst := some 96, op := Op.call { callee := Callee.value (Operand.func 31), args := #[Operand.tmp 94, Operand.tmp 95], argTypes := #[36, 36] }, type := 36, pos := "law.go:62", after := #[{ on := 6, ground := Ground.data }, { on := 7, ground := Ground.data }, { on := 4, ground := Ground.chain }, { on := 4, ground := Ground.guard }], guard := some (4, true) }) (v := undef) rfl (by kernel_rfl) (by kernel_rfl) (by kernel_rfl) (fun _ _ _ h => h) (Or.inr ⟨by kernel_rfl, rfl⟩) (by with_reducible assumption) ?_
              simp only [Act.put, List.setIfInBounds_toArray, List.set_cons_zero, List.set_cons_succ]
              refine wpAnyH_take (i := 9) (oi := { dst := some 97, op := Op.binOp BinOp.neq 36 (Operand.tmp 93) (Operand.tmp 96) 36, type := 4, pos := "law.go:62", after := #[{ on := 5, ground := Ground.data }, { on := 8, ground := Ground.data }, { on := 4, ground := Ground.guard }], guard := some (4, true) }) (v := undef) rfl (by kernel_rfl) (by kernel_rfl) (by kernel_rfl) (fun _ _ _ h => h) (Or.inr ⟨by kernel_rfl, rfl⟩) (by with_reducible assumption) ?_
              simp only [Act.put, List.setIfInBounds_toArray, List.set_cons_zero, List.set_cons_succ]
              refine wpAnyH_take (i := 10) (oi := { dst := some 98, op := Op.pick (Operand.tmp 92) (Operand.tmp 97) (Operand.const (Value.bool false)), type := 4, pos := "law.go:62", after := #[{ on := 4, ground := Ground.data }, { on := 9, ground := Ground.data }], guard := none }) (v := ?_) rfl (by kernel_rfl) (by kernel_rfl) (by kernel_rfl) (fun _ _ _ h => h) (Or.inl ⟨by kernel_rfl, ?_⟩) (by with_reducible assumption) ?_
              rotate_left 1
              · (intro w0 hSw; (try dsimp only at hSw); go_simp; (try with_reducible rfl))
              simp only [Act.put, List.setIfInBounds_toArray, List.set_cons_zero, List.set_cons_succ]
              refine wpAnyH_take (i := 11) (oi := { dst := some 99, op := Op.move (Operand.tmp 98), type := 4, pos := "law.go:62", after := #[{ on := 10, ground := Ground.data }, { on := 8, ground := Ground.chain }], guard := none }) (v := ?_) rfl (by kernel_rfl) (by kernel_rfl) (by kernel_rfl) (fun _ _ _ h => h) (Or.inl ⟨by kernel_rfl, ?_⟩) (by with_reducible assumption) ?_
              rotate_left 1
              · (intro w0 hSw; (try dsimp only at hSw); go_simp; (try with_reducible rfl))
              simp only [Act.put, List.setIfInBounds_toArray, List.set_cons_zero, List.set_cons_succ]
              refine wpAnyH_take (i := 12) (oi := { dst := some 100, op := Op.move (Operand.tmp 10), type := 4, pos := "law.go:62", after := #[{ on := 11, ground := Ground.guard }], guard := some (11, false) }) (v := ?_) rfl (by kernel_rfl) (by kernel_rfl) (by kernel_rfl) (fun _ _ _ h => h) (Or.inl ⟨by kernel_rfl, ?_⟩) (by with_reducible assumption) ?_
              rotate_left 1
              · (intro w0 hSw; (try dsimp only at hSw); go_simp; (try with_reducible rfl))
              simp only [Act.put, List.setIfInBounds_toArray, List.set_cons_zero, List.set_cons_succ]
              refine wpAnyH_take (i := 13) (oi := { dst := some 101, op := Op.move (Operand.tmp 100), type := 4, pos := "law.go:62", after := #[{ on := 12, ground := Ground.data }, { on := 11, ground := Ground.chain }, { on := 11, ground := Ground.guard }], guard := some (11, false) }) (v := ?_) rfl (by kernel_rfl) (by kernel_rfl) (by kernel_rfl) (fun _ _ _ h => h) (Or.inl ⟨by kernel_rfl, ?_⟩) (by with_reducible assumption) ?_
              rotate_left 1
              · (intro w0 hSw; (try dsimp only at hSw); go_simp; (try with_reducible rfl))
              simp only [Act.put, List.setIfInBounds_toArray, List.set_cons_zero, List.set_cons_succ]
              refine wpAnyH_take (i := 14) (oi := { dst := some 102, op := Op.move (Operand.tmp 11), type := 4, pos := "law.go:62", after := #[{ on := 13, ground := Ground.guard }], guard := some (13, true) }) (v := undef) rfl (by kernel_rfl) (by kernel_rfl) (by kernel_rfl) (fun _ _ _ h => h) (Or.inr ⟨by kernel_rfl, rfl⟩) (by with_reducible assumption) ?_
              simp only [Act.put, List.setIfInBounds_toArray, List.set_cons_zero, List.set_cons_succ]
              refine wpAnyH_take (i := 15) (oi := { dst := some 103, op := Op.pick (Operand.tmp 101) (Operand.tmp 102) (Operand.const (Value.bool false)), type := 4, pos := "law.go:62", after := #[{ on := 13, ground := Ground.data }, { on := 14, ground := Ground.data }, { on := 11, ground := Ground.guard }], guard := some (11, false) }) (v := ?_) rfl (by kernel_rfl) (by kernel_rfl) (by kernel_rfl) (fun _ _ _ h => h) (Or.inl ⟨by kernel_rfl, ?_⟩) (by with_reducible assumption) ?_
              rotate_left 1
              · (intro w0 hSw; (try dsimp only at hSw); go_simp; (try with_reducible rfl))
              simp only [Act.put, List.setIfInBounds_toArray, List.set_cons_zero, List.set_cons_succ]
              refine wpAnyH_take (i := 16) (oi := { dst := some 104, op := Op.unOp UnOp.not 4 (Operand.tmp 103), type := 4, pos := "law.go:62", after := #[{ on := 15, ground := Ground.data }, { on := 11, ground := Ground.guard }], guard := some (11, false) }) (v := ?_) rfl (by kernel_rfl) (by kernel_rfl) (by kernel_rfl) (fun _ _ _ h => h) (Or.inl ⟨by kernel_rfl, ?_⟩) (by with_reducible assumption) ?_
              rotate_left 1
              · (intro w0 hSw; (try dsimp only at hSw); go_simp; (try with_reducible rfl))
              simp only [Act.put, List.setIfInBounds_toArray, List.set_cons_zero, List.set_cons_succ]
              refine wpAnyH_take (i := 17) (oi := { dst := some 105, op := Op.move (Operand.tmp 104), type := 4, pos := "law.go:62", after := #[{ on := 16, ground := Ground.data }, { on := 13, ground := Ground.chain }, { on := 11, ground := Ground.guard }], guard := some (11, false) }) (v := ?_) rfl (by kernel_rfl) (by kernel_rfl) (by kernel_rfl) (fun _ _ _ h => h) (Or.inl ⟨by kernel_rfl, ?_⟩) (by with_reducible assumption) ?_
              rotate_left 1
              · (intro w0 hSw; (try dsimp only at hSw); go_simp; (try with_reducible rfl))
              simp only [Act.put, List.setIfInBounds_toArray, List.set_cons_zero, List.set_cons_succ]
              refine wpAnyH_take (i := 18) (oi := { dst := some 106, op := Op.load 36 (Operand.tmp 12), type := 36, pos := "law.go:62", after := #[{ on := 17, ground := Ground.guard }], guard := some (17, true) }) (v := .agg #[.int .i64 0, .int .i64 0, .int .i64 0, .int .i64 0]) rfl (by kernel_rfl) (by kernel_rfl) (by kernel_rfl) (fun _ _ _ h => h) (yieldsIf_load_mid (by kernel_rfl) 36 (.tmp 12) rfl (w10.heap.size) (0) (by kernel_rfl) [.int .i64 0, .int .i64 0, .int .i64 0, .int .i64 0] _ (fun W hW => (QJ.out.keep hW QJ.out.lt).range) Try.underlying36 rfl (by kernel_rfl)) (by with_reducible assumption) ?_
              simp only [Act.put, List.setIfInBounds_toArray, List.set_cons_zero, List.set_cons_succ]
              refine wpAnyH_take (i := 19) (oi := { dst := some 107, op := Op.build 36 #[], type := 36, pos := "law.go:62", after := #[{ on := 17, ground := Ground.guard }], guard := some (17, true) }) (v := ?_) rfl (by kernel_rfl) (by kernel_rfl) (by kernel_rfl) (fun _ _ _ h => h) (Or.inl ⟨by kernel_rfl, ?_⟩) (by with_reducible assumption) ?_
              rotate_left 1
              · (intro w0 hSw; (try dsimp only at hSw); go_simp; (try with_reducible rfl))
              simp only [Act.put, List.setIfInBounds_toArray, List.set_cons_zero, List.set_cons_succ]
              refine wpAnyH_take (i := 20) (oi := { dst := some 108, op := Op.binOp BinOp.neq 36 (Operand.tmp 106) (Operand.tmp 107) 36, type := 4, pos := "law.go:62", after := #[{ on := 18, ground := Ground.data }, { on := 19, ground := Ground.data }, { on := 17, ground := Ground.guard }], guard := some (17, true) }) (v := ?_) rfl (by kernel_rfl) (by kernel_rfl) (by kernel_rfl) (fun _ _ _ h => h) (Or.inl ⟨by kernel_rfl, ?_⟩) (by with_reducible assumption) ?_
              rotate_left 1
              · (intro w0 hSw; (try dsimp only at hSw); go_simp; (try with_reducible rfl))
              simp only [Act.put, List.setIfInBounds_toArray, List.set_cons_zero, List.set_cons_succ]
              refine wpAnyH_take (i := 21) (oi := { dst := some 109, op := Op.pick (Operand.tmp 105) (Operand.tmp 108) (Operand.const (Value.bool false)), type := 4, pos := "law.go:62", after := #[{ on := 17, ground := Ground.data }, { on := 20, ground := Ground.data }, { on := 11, ground := Ground.guard }], guard := some (11, false) }) (v := ?_) rfl (by kernel_rfl) (by kernel_rfl) (by kernel_rfl) (fun _ _ _ h => h) (Or.inl ⟨by kernel_rfl, ?_⟩) (by with_reducible assumption) ?_
              rotate_left 1
              · (intro w0 hSw; (try dsimp only at hSw); go_simp; (try with_reducible rfl))
              simp only [Act.put, List.setIfInBounds_toArray, List.set_cons_zero, List.set_cons_succ]
              refine wpAnyH_take (i := 22) (oi := { dst := some 110, op := Op.pick (Operand.tmp 99) (Operand.const (Value.bool true)) (Operand.tmp 109), type := 4, pos := "law.go:62", after := #[{ on := 11, ground := Ground.data }, { on := 21, ground := Ground.data }], guard := none }) (v := ?_) rfl (by kernel_rfl) (by kernel_rfl) (by kernel_rfl) (fun _ _ _ h => h) (Or.inl ⟨by kernel_rfl, ?_⟩) (by with_reducible assumption) ?_
              rotate_left 1
              · (intro w0 hSw; (try dsimp only at hSw); go_simp; (try with_reducible rfl))
              simp only [Act.put, List.setIfInBounds_toArray, List.set_cons_zero, List.set_cons_succ]
              refine wpAnyH_done (by kernel_rfl) ?_ _
              go_wp2_with fail
              go_meet
              exact ⟨rfl, by with_reducible assumption⟩
            · obtain rfl := HJ0.out (by simp)
              refine wp_region_held_drew (S := fun W => Below Wk.heap.size Wk W) (by kernel_rfl) (PK.out) (fun hHeld => ?_)
              refine wpAnyH_take (i := 0) (oi := { dst := some 88, op := Op.move (Operand.tmp 10), type := 4, pos := "law.go:62", after := #[], guard := none }) (v := ?_) rfl (by kernel_rfl) (by kernel_rfl) (by kernel_rfl) (fun _ _ _ h => h) (Or.inl ⟨by kernel_rfl, ?_⟩) (by with_reducible assumption) ?_
              rotate_left 1
              · (intro w0 hSw; (try dsimp only at hSw); go_simp; (try with_reducible rfl))
              simp only [Act.put, List.setIfInBounds_toArray, List.set_cons_zero, List.set_cons_succ]
              refine wpAnyH_take (i := 1) (oi := { dst := some 89, op := Op.move (Operand.tmp 88), type := 4, pos := "law.go:62", after := #[{ on := 0, ground := Ground.data }], guard := none }) (v := ?_) rfl (by kernel_rfl) (by kernel_rfl) (by kernel_rfl) (fun _ _ _ h => h) (Or.inl ⟨by kernel_rfl, ?_⟩) (by with_reducible assumption) ?_
              rotate_left 1
              · (intro w0 hSw; (try dsimp only at hSw); go_simp; (try with_reducible rfl))
              simp only [Act.put, List.setIfInBounds_toArray, List.set_cons_zero, List.set_cons_succ]
              refine wpAnyH_take (i := 2) (oi := { dst := some 90, op := Op.move (Operand.tmp 11), type := 4, pos := "law.go:62", after := #[{ on := 1, ground := Ground.guard }], guard := some (1, true) }) (v := undef) rfl (by kernel_rfl) (by kernel_rfl) (by kernel_rfl) (fun _ _ _ h => h) (Or.inr ⟨by kernel_rfl, rfl⟩) (by with_reducible assumption) ?_
              simp only [Act.put, List.setIfInBounds_toArray, List.set_cons_zero, List.set_cons_succ]
              refine wpAnyH_take (i := 3) (oi := { dst := some 91, op := Op.pick (Operand.tmp 89) (Operand.tmp 90) (Operand.const (Value.bool false)), type := 4, pos := "law.go:62", after := #[{ on := 1, ground := Ground.data }, { on := 2, ground := Ground.data }], guard := none }) (v := ?_) rfl (by kernel_rfl) (by kernel_rfl) (by kernel_rfl) (fun _ _ _ h => h) (Or.inl ⟨by kernel_rfl, ?_⟩) (by with_reducible assumption) ?_
              rotate_left 1
              · (intro w0 hSw; (try dsimp only at hSw); go_simp; (try with_reducible rfl))
              simp only [Act.put, List.setIfInBounds_toArray, List.set_cons_zero, List.set_cons_succ]
              refine wpAnyH_take (i := 4) (oi := { dst := some 92, op := Op.move (Operand.tmp 91), type := 4, pos := "law.go:62", after := #[{ on := 3, ground := Ground.data }, { on := 1, ground := Ground.chain }], guard := none }) (v := ?_) rfl (by kernel_rfl) (by kernel_rfl) (by kernel_rfl) (fun _ _ _ h => h) (Or.inl ⟨by kernel_rfl, ?_⟩) (by with_reducible assumption) ?_
              rotate_left 1
              · (intro w0 hSw; (try dsimp only at hSw); go_simp; (try with_reducible rfl))
              simp only [Act.put, List.setIfInBounds_toArray, List.set_cons_zero, List.set_cons_succ]
              refine wpAnyH_take (i := 5) (oi := { dst := some 93, op := Op.load 36 (Operand.tmp 12), type := 36, pos := "law.go:62", after := #[{ on := 4, ground := Ground.guard }], guard := some (4, true) }) (v := undef) rfl (by kernel_rfl) (by kernel_rfl) (by kernel_rfl) (fun _ _ _ h => h) (Or.inr ⟨by kernel_rfl, rfl⟩) (by with_reducible assumption) ?_
              simp only [Act.put, List.setIfInBounds_toArray, List.set_cons_zero, List.set_cons_succ]
              refine wpAnyH_take (i := 6) (oi := { dst := some 94, op := Op.load 36 (Operand.tmp 4), type := 36, pos := "law.go:62", after := #[{ on := 4, ground := Ground.guard }], guard := some (4, true) }) (v := undef) rfl (by kernel_rfl) (by kernel_rfl) (by kernel_rfl) (fun _ _ _ h => h) (Or.inr ⟨by kernel_rfl, rfl⟩) (by with_reducible assumption) ?_
              simp only [Act.put, List.setIfInBounds_toArray, List.set_cons_zero, List.set_cons_succ]
              refine wpAnyH_take (i := 7) (oi := { dst := some 95, op := Op.load 36 (Operand.tmp 5), type := 36, pos := "law.go:62", after := #[{ on := 4, ground := Ground.guard }], guard := some (4, true) }) (v := undef) rfl (by kernel_rfl) (by kernel_rfl) (by kernel_rfl) (fun _ _ _ h => h) (Or.inr ⟨by kernel_rfl, rfl⟩) (by with_reducible assumption) ?_
              simp only [Act.put, List.setIfInBounds_toArray, List.set_cons_zero, List.set_cons_succ]
              refine wpAnyH_take (i := 8) (oi := { dst := some 96, op := Op.call { callee := Callee.value (Operand.func 31), args := #[Operand.tmp 94, Operand.tmp 95], argTypes := #[36, 36] }, type := 36, pos := "law.go:62", after := #[{ on := 6, ground := Ground.data }, { on := 7, ground := Ground.data }, { on := 4, ground := Ground.chain }, { on := 4, ground := Ground.guard }], guard := some (4, true) }) (v := undef) rfl (by kernel_rfl) (by kernel_rfl) (by kernel_rfl) (fun _ _ _ h => h) (Or.inr ⟨by kernel_rfl, rfl⟩) (by with_reducible assumption) ?_
              simp only [Act.put, List.setIfInBounds_toArray, List.set_cons_zero, List.set_cons_succ]
              refine wpAnyH_take (i := 9) (oi := { dst := some 97, op := Op.binOp BinOp.neq 36 (Operand.tmp 93) (Operand.tmp 96) 36, type := 4, pos := "law.go:62", after := #[{ on := 5, ground := Ground.data }, { on := 8, ground := Ground.data }, { on := 4, ground := Ground.guard }], guard := some (4, true) }) (v := undef) rfl (by kernel_rfl) (by kernel_rfl) (by kernel_rfl) (fun _ _ _ h => h) (Or.inr ⟨by kernel_rfl, rfl⟩) (by with_reducible assumption) ?_
              simp only [Act.put, List.setIfInBounds_toArray, List.set_cons_zero, List.set_cons_succ]
              refine wpAnyH_take (i := 10) (oi := { dst := some 98, op := Op.pick (Operand.tmp 92) (Operand.tmp 97) (Operand.const (Value.bool false)), type := 4, pos := "law.go:62", after := #[{ on := 4, ground := Ground.data }, { on := 9, ground := Ground.data }], guard := none }) (v := ?_) rfl (by kernel_rfl) (by kernel_rfl) (by kernel_rfl) (fun _ _ _ h => h) (Or.inl ⟨by kernel_rfl, ?_⟩) (by with_reducible assumption) ?_
              rotate_left 1
              · (intro w0 hSw; (try dsimp only at hSw); go_simp; (try with_reducible rfl))
              simp only [Act.put, List.setIfInBounds_toArray, List.set_cons_zero, List.set_cons_succ]
              refine wpAnyH_take (i := 11) (oi := { dst := some 99, op := Op.move (Operand.tmp 98), type := 4, pos := "law.go:62", after := #[{ on := 10, ground := Ground.data }, { on := 8, ground := Ground.chain }], guard := none }) (v := ?_) rfl (by kernel_rfl) (by kernel_rfl) (by kernel_rfl) (fun _ _ _ h => h) (Or.inl ⟨by kernel_rfl, ?_⟩) (by with_reducible assumption) ?_
              rotate_left 1
              · (intro w0 hSw; (try dsimp only at hSw); go_simp; (try with_reducible rfl))
              simp only [Act.put, List.setIfInBounds_toArray, List.set_cons_zero, List.set_cons_succ]
              refine wpAnyH_take (i := 12) (oi := { dst := some 100, op := Op.move (Operand.tmp 10), type := 4, pos := "law.go:62", after := #[{ on := 11, ground := Ground.guard }], guard := some (11, false) }) (v := ?_) rfl (by kernel_rfl) (by kernel_rfl) (by kernel_rfl) (fun _ _ _ h => h) (Or.inl ⟨by kernel_rfl, ?_⟩) (by with_reducible assumption) ?_
              rotate_left 1
              · (intro w0 hSw; (try dsimp only at hSw); go_simp; (try with_reducible rfl))
              simp only [Act.put, List.setIfInBounds_toArray, List.set_cons_zero, List.set_cons_succ]
              refine wpAnyH_take (i := 13) (oi := { dst := some 101, op := Op.move (Operand.tmp 100), type := 4, pos := "law.go:62", after := #[{ on := 12, ground := Ground.data }, { on := 11, ground := Ground.chain }, { on := 11, ground := Ground.guard }], guard := some (11, false) }) (v := ?_) rfl (by kernel_rfl) (by kernel_rfl) (by kernel_rfl) (fun _ _ _ h => h) (Or.inl ⟨by kernel_rfl, ?_⟩) (by with_reducible assumption) ?_
              rotate_left 1
              · (intro w0 hSw; (try dsimp only at hSw); go_simp; (try with_reducible rfl))
              simp only [Act.put, List.setIfInBounds_toArray, List.set_cons_zero, List.set_cons_succ]
              refine wpAnyH_take (i := 14) (oi := { dst := some 102, op := Op.move (Operand.tmp 11), type := 4, pos := "law.go:62", after := #[{ on := 13, ground := Ground.guard }], guard := some (13, true) }) (v := undef) rfl (by kernel_rfl) (by kernel_rfl) (by kernel_rfl) (fun _ _ _ h => h) (Or.inr ⟨by kernel_rfl, rfl⟩) (by with_reducible assumption) ?_
              simp only [Act.put, List.setIfInBounds_toArray, List.set_cons_zero, List.set_cons_succ]
              refine wpAnyH_take (i := 15) (oi := { dst := some 103, op := Op.pick (Operand.tmp 101) (Operand.tmp 102) (Operand.const (Value.bool false)), type := 4, pos := "law.go:62", after := #[{ on := 13, ground := Ground.data }, { on := 14, ground := Ground.data }, { on := 11, ground := Ground.guard }], guard := some (11, false) }) (v := ?_) rfl (by kernel_rfl) (by kernel_rfl) (by kernel_rfl) (fun _ _ _ h => h) (Or.inl ⟨by kernel_rfl, ?_⟩) (by with_reducible assumption) ?_
              rotate_left 1
              · (intro w0 hSw; (try dsimp only at hSw); go_simp; (try with_reducible rfl))
              simp only [Act.put, List.setIfInBounds_toArray, List.set_cons_zero, List.set_cons_succ]
              refine wpAnyH_take (i := 16) (oi := { dst := some 104, op := Op.unOp UnOp.not 4 (Operand.tmp 103), type := 4, pos := "law.go:62", after := #[{ on := 15, ground := Ground.data }, { on := 11, ground := Ground.guard }], guard := some (11, false) }) (v := ?_) rfl (by kernel_rfl) (by kernel_rfl) (by kernel_rfl) (fun _ _ _ h => h) (Or.inl ⟨by kernel_rfl, ?_⟩) (by with_reducible assumption) ?_
              rotate_left 1
              · (intro w0 hSw; (try dsimp only at hSw); go_simp; (try with_reducible rfl))
              simp only [Act.put, List.setIfInBounds_toArray, List.set_cons_zero, List.set_cons_succ]
              refine wpAnyH_take (i := 17) (oi := { dst := some 105, op := Op.move (Operand.tmp 104), type := 4, pos := "law.go:62", after := #[{ on := 16, ground := Ground.data }, { on := 13, ground := Ground.chain }, { on := 11, ground := Ground.guard }], guard := some (11, false) }) (v := ?_) rfl (by kernel_rfl) (by kernel_rfl) (by kernel_rfl) (fun _ _ _ h => h) (Or.inl ⟨by kernel_rfl, ?_⟩) (by with_reducible assumption) ?_
              rotate_left 1
              · (intro w0 hSw; (try dsimp only at hSw); go_simp; (try with_reducible rfl))
              simp only [Act.put, List.setIfInBounds_toArray, List.set_cons_zero, List.set_cons_succ]
              refine wpAnyH_take (i := 18) (oi := { dst := some 106, op := Op.load 36 (Operand.tmp 12), type := 36, pos := "law.go:62", after := #[{ on := 17, ground := Ground.guard }], guard := some (17, true) }) (v := .agg #[.int .i64 0, .int .i64 0, .int .i64 0, .int .i64 0]) rfl (by kernel_rfl) (by kernel_rfl) (by kernel_rfl) (fun _ _ _ h => h) (yieldsIf_load_mid (by kernel_rfl) 36 (.tmp 12) rfl (w10.heap.size) (0) (by kernel_rfl) [.int .i64 0, .int .i64 0, .int .i64 0, .int .i64 0] _ (fun W hW => (QJ.out.keep hW QJ.out.lt).range) Try.underlying36 rfl (by kernel_rfl)) (by with_reducible assumption) ?_
              simp only [Act.put, List.setIfInBounds_toArray, List.set_cons_zero, List.set_cons_succ]
              refine wpAnyH_take (i := 19) (oi := { dst := some 107, op := Op.build 36 #[], type := 36, pos := "law.go:62", after := #[{ on := 17, ground := Ground.guard }], guard := some (17, true) }) (v := ?_) rfl (by kernel_rfl) (by kernel_rfl) (by kernel_rfl) (fun _ _ _ h => h) (Or.inl ⟨by kernel_rfl, ?_⟩) (by with_reducible assumption) ?_
              rotate_left 1
              · (intro w0 hSw; (try dsimp only at hSw); go_simp; (try with_reducible rfl))
              simp only [Act.put, List.setIfInBounds_toArray, List.set_cons_zero, List.set_cons_succ]
              refine wpAnyH_take (i := 20) (oi := { dst := some 108, op := Op.binOp BinOp.neq 36 (Operand.tmp 106) (Operand.tmp 107) 36, type := 4, pos := "law.go:62", after := #[{ on := 18, ground := Ground.data }, { on := 19, ground := Ground.data }, { on := 17, ground := Ground.guard }], guard := some (17, true) }) (v := ?_) rfl (by kernel_rfl) (by kernel_rfl) (by kernel_rfl) (fun _ _ _ h => h) (Or.inl ⟨by kernel_rfl, ?_⟩) (by with_reducible assumption) ?_
              rotate_left 1
              · (intro w0 hSw; (try dsimp only at hSw); go_simp; (try with_reducible rfl))
              simp only [Act.put, List.setIfInBounds_toArray, List.set_cons_zero, List.set_cons_succ]
              refine wpAnyH_take (i := 21) (oi := { dst := some 109, op := Op.pick (Operand.tmp 105) (Operand.tmp 108) (Operand.const (Value.bool false)), type := 4, pos := "law.go:62", after := #[{ on := 17, ground := Ground.data }, { on := 20, ground := Ground.data }, { on := 11, ground := Ground.guard }], guard := some (11, false) }) (v := ?_) rfl (by kernel_rfl) (by kernel_rfl) (by kernel_rfl) (fun _ _ _ h => h) (Or.inl ⟨by kernel_rfl, ?_⟩) (by with_reducible assumption) ?_
              rotate_left 1
              · (intro w0 hSw; (try dsimp only at hSw); go_simp; (try with_reducible rfl))
              simp only [Act.put, List.setIfInBounds_toArray, List.set_cons_zero, List.set_cons_succ]
              refine wpAnyH_take (i := 22) (oi := { dst := some 110, op := Op.pick (Operand.tmp 99) (Operand.const (Value.bool true)) (Operand.tmp 109), type := 4, pos := "law.go:62", after := #[{ on := 11, ground := Ground.data }, { on := 21, ground := Ground.data }], guard := none }) (v := ?_) rfl (by kernel_rfl) (by kernel_rfl) (by kernel_rfl) (fun _ _ _ h => h) (Or.inl ⟨by kernel_rfl, ?_⟩) (by with_reducible assumption) ?_
              rotate_left 1
              · (intro w0 hSw; (try dsimp only at hSw); go_simp; (try with_reducible rfl))
              simp only [Act.put, List.setIfInBounds_toArray, List.set_cons_zero, List.set_cons_succ]
              refine wpAnyH_done (by kernel_rfl) ?_ _
              go_wp2_with fail
              go_meet
              exact ⟨rfl, by with_reducible assumption⟩
          case rest =>
            obtain ⟨rfl, hl⟩ := hcut
            have LX := Lib.hid (LK.out.trans (hl.mono LK.out.size))
            clear hl
            go_wp2_with fail
            go_loopw [13] (fun i wr => ∃ k : Nat, k ≤ n ∧ i = .int .i64 k ∧ Below W0.heap.size W0 wr) (fun i _ => n - (intOf i).toNat)
            case atStart => exact ⟨0, by omega, rfl, LX.out⟩
            case round =>
              obtain ⟨k, hk, rfl, hb⟩ := hrel
              have HB := Lib.hid hb
              clear hb
              by_cases hlt : k < n
              · obtain ⟨bb, o, rfl, hcl⟩ := HP.out.2 (by omega)
                have hbb : bb < w.heap.size := cell_lt' (hcl 0 (by omega)).1
                obtain ⟨p, hp⟩ : ∃ p, p = F k := ⟨_, rfl⟩
                obtain ⟨q, hq⟩ : ∃ q, q = F 0 := ⟨_, rfl⟩
                obtain ⟨a0, a1⟩ := hcl k hlt
                obtain ⟨b0, b1⟩ := hcl 0 (by omega)
                rw [← hp] at a0 a1
                rw [← hq, Nat.zero_mul, Nat.add_zero] at b0 b1
                have PT := Lib.hid (show ∀ W : World, Below w.heap.size w W → W.cell? ⟨bb, o + k * 2, none⟩ = some (.int .i64 p.x) ∧ W.cell? ⟨bb, o + k * 2 + 1, none⟩ = some (.int .i64 p.y) ∧ W.cell? ⟨bb, o, none⟩ = some (.int .i64 q.x) ∧ W.cell? ⟨bb, o + 1, none⟩ = some (.int .i64 q.y) from fun W l => ⟨kp' l hbb a0, kp' l hbb a1, kp' l hbb b0, kp' l hbb b1⟩)
                clear hcl hp hq a0 a1 b0 b1
                obtain ⟨Wp, hWp⟩ : ∃ Wp, Wp = wr.alloc (.cells #[.int .i64 p.x, .int .i64 p.y] 23) := ⟨_, rfl⟩
                have LP := Lib.hid (show Below W0.heap.size W0 Wp by rw [hWp]; exact HB.out.alloc HB.out.size _)
                have QP := Lib.hid (show Wp.cell? ⟨wr.heap.size, 0, none⟩ = some (.int .i64 p.x) ∧ Wp.cell? ⟨wr.heap.size, 1, none⟩ = some (.int .i64 p.y) ∧ wr.heap.size < Wp.heap.size by rw [hWp]; simp)
                have PA := Lib.hid (show ∀ W : World, Below Wp.heap.size Wp W → W.cell? ⟨wr.heap.size, 0, none⟩ = some (.int .i64 p.x) ∧ W.cell? ⟨wr.heap.size, 1, none⟩ = some (.int .i64 p.y) ∧ RcAt W (w.heap.size) r ∧ Below w.heap.size w W from fun W l => ⟨(l.cell (p := ⟨wr.heap.size, 0, none⟩) QP.out.2.2).trans QP.out.1, (l.cell (p := ⟨wr.heap.size, 1, none⟩) QP.out.2.2).trans QP.out.2.1, (RW.out _ (LP.out.trans (l.mono LP.out.size))).1, (RW.out _ (LP.out.trans (l.mono LP.out.size))).2.2⟩)
                have HWp := Lib.hid hWp
                clear hWp
                obtain ⟨nr, hnr⟩ : ∃ nr, nr = nearI r p := ⟨_, rfl⟩
                obtain ⟨fr, hfr⟩ : ∃ fr, fr = distI p q := ⟨_, rfl⟩
                obtain ⟨hv, hhv⟩ : ∃ hv, hv = ovB r (justR p) := ⟨_, rfl⟩
                have gH := Lib.hid (GH.out p)
                have gN := Lib.hid (GN.out p)
                have gD := Lib.hid (GD.out p q)
                have mP := Lib.hid (KM.out p)
                have mQ := Lib.hid (KM.out q)


                have kD := Lib.hid (KD.out p q)
                have zH := Lib.hid (HH.out p)
                have zN := Lib.hid (HNr.out p)
                have zD := Lib.hid (HD.out p q)
                rw [← hnr] at gN  zN
                rw [← hfr] at gD kD zD
                rw [← hhv] at gH  zH
                clear hnr hfr hhv
                have ev : (hv != hv) = false := by cases hv <;> rfl
                have en : (nr != nr) = false := by simp
                have ef : (fr != fr) = false := by simp
                have hn0 : (0 : Int) < n := by omega
                have hn1 : 0 < n := by omega
                obtain ⟨mp, hmp⟩ : ∃ mp, mp = mayB p := ⟨_, rfl⟩
                obtain ⟨mq, hmq⟩ : ∃ mq, mq = mayB q := ⟨_, rfl⟩
                rw [← hmp] at mP  kD zH zN zD
                rw [← hmq] at mQ kD zD
                clear hmp hmq
                obtain ⟨t0, t1, t2, t3⟩ := PT.out _ (RW.out _ HB.out).2.2
                go_wp2_with fail
                rw [← HWp.out]
                clear t0 t1 t2 t3
                (with_reducible refine (mP.out _).mono ?_); rintro _ w5 ⟨rfl, l5⟩
                have Q5 := Lib.hid l5
                clear l5
                cases mp <;> cases mq
                · obtain rfl := zN.out (by simp)
                  obtain rfl := zH.out (by simp)
                  obtain rfl := zD.out (by simp)
                  obtain ⟨e0, e1, er, el⟩ := PA.out _ Q5.out
                  obtain ⟨c0, c1, c2, c3⟩ := er.cells
                  obtain ⟨t0, t1, t2, t3⟩ := PT.out _ el
                  clear er el
                  go_wp2_with fail
                  clear e0 e1 c0 c1 c2 c3 t0 t1 t2 t3
                  have D23 := Lib.hid (show Below Wp.heap.size Wp _ from Q5.out.drew)
                  refine wp_region_held_drew (S := fun W => Below Wp.heap.size Wp W) (by kernel_rfl) (D23.out) (fun hHeld => ?_)
                  refine wpAnyH_take (i := 0) (oi := { dst := some 142, op := Op.load 36 (Operand.tmp 4), type := 36, pos := "law.go:75", after := #[], guard := none }) (v := .agg #[.int .i64 r.x0, .int .i64 r.y0, .int .i64 r.x1, .int .i64 r.y1]) rfl (by kernel_rfl) (by kernel_rfl) (by kernel_rfl) (fun _ _ _ h => h) (yieldsIf_load_mid (by kernel_rfl) 36 (.tmp 4) rfl (w.heap.size) (0) (by kernel_rfl) [.int .i64 r.x0, .int .i64 r.y0, .int .i64 r.x1, .int .i64 r.y1] _ (fun W hW => (PA.out _ hW).2.2.1.range) Try.underlying36 rfl (by kernel_rfl)) (by with_reducible assumption) ?_
                  simp only [Act.put, List.setIfInBounds_toArray, List.set_cons_zero, List.set_cons_succ]
                  refine wpAnyH_take (i := 1) (oi := { dst := some 143, op := Op.load 23 (Operand.tmp 14), type := 23, pos := "law.go:75", after := #[], guard := none }) (v := .agg #[.int .i64 p.x, .int .i64 p.y]) rfl (by kernel_rfl) (by kernel_rfl) (by kernel_rfl) (fun _ _ _ h => h) (yieldsIf_load_mid (by kernel_rfl) 23 (.tmp 14) rfl (wr.heap.size) (0) (by kernel_rfl) [.int .i64 p.x, .int .i64 p.y] _ (fun W hW => (by obtain ⟨e0, e1, _, _⟩ := PA.out _ hW; exact range2 e0 e1)) Try.underlying23 rfl (by kernel_rfl)) (by with_reducible assumption) ?_
                  simp only [Act.put, List.setIfInBounds_toArray, List.set_cons_zero, List.set_cons_succ]
                  refine wpAnyH_take (i := 3) (oi := { dst := some 145, op := Op.move (Operand.tmp 15), type := 4, pos := "law.go:75", after := #[], guard := none }) (v := ?_) rfl (by kernel_rfl) (by kernel_rfl) (by kernel_rfl) (fun _ _ _ h => h) (Or.inl ⟨by kernel_rfl, ?_⟩) (by with_reducible assumption) ?_
                  rotate_left 1
                  · (intro w0 hSw; (try dsimp only at hSw); go_simp; (try with_reducible rfl))
                  simp only [Act.put, List.setIfInBounds_toArray, List.set_cons_zero, List.set_cons_succ]
                  refine wpAnyH_ready (rs := [2]) (by kernel_rfl) (by simp) ?_
                  refine AllReadyH.cons (o := { dst := some 144, op := Op.call { callee := Callee.value (Operand.func 34), args := #[Operand.tmp 142, Operand.tmp 143], argTypes := #[36, 23] }, type := 4, pos := "law.go:75", after := #[{ on := 0, ground := Ground.data }, { on := 1, ground := Ground.data }], guard := none }) rfl (fun K hK => ?_) AllReadyH.nil
                  go_simp
                  go_wp2_with (go_at_call 34; (with_reducible refine (gH.out _).mono ?_); rintro _ x1 ⟨rfl, l⟩; have hX1 := D23.out.trans (l.mono D23.out.size); have X1 := Lib.hid hX1; clear l)
                  refine hK.out _ _ (by with_reducible assumption) (fun hHeld => ?_)
                  clear hK K
                  refine wpAnyH_take (i := 4) (oi := { dst := some 146, op := Op.move (Operand.tmp 145), type := 4, pos := "law.go:75", after := #[{ on := 3, ground := Ground.data }, { on := 2, ground := Ground.chain }], guard := none }) (v := ?_) rfl (by kernel_rfl) (by kernel_rfl) (by kernel_rfl) (fun _ _ _ h => h) (Or.inl ⟨by kernel_rfl, ?_⟩) (by with_reducible assumption) ?_
                  rotate_left 1
                  · (intro w0 hSw; (try dsimp only at hSw); go_simp; (try with_reducible rfl))
                  simp only [Act.put, List.setIfInBounds_toArray, List.set_cons_zero, List.set_cons_succ]
                  refine wpAnyH_take (i := 5) (oi := { dst := some 147, op := Op.move (Operand.tmp 10), type := 4, pos := "law.go:75", after := #[{ on := 4, ground := Ground.guard }], guard := some (4, true) }) (v := undef) rfl (by kernel_rfl) (by kernel_rfl) (by kernel_rfl) (fun _ _ _ h => h) (Or.inr ⟨by kernel_rfl, rfl⟩) (by with_reducible assumption) ?_
                  simp only [Act.put, List.setIfInBounds_toArray, List.set_cons_zero, List.set_cons_succ]
                  refine wpAnyH_take (i := 6) (oi := { dst := some 148, op := Op.pick (Operand.tmp 146) (Operand.tmp 147) (Operand.const (Value.bool false)), type := 4, pos := "law.go:75", after := #[{ on := 4, ground := Ground.data }, { on := 5, ground := Ground.data }], guard := none }) (v := ?_) rfl (by kernel_rfl) (by kernel_rfl) (by kernel_rfl) (fun _ _ _ h => h) (Or.inl ⟨by kernel_rfl, ?_⟩) (by with_reducible assumption) ?_
                  rotate_left 1
                  · (intro w0 hSw; (try dsimp only at hSw); go_simp; (try with_reducible rfl))
                  simp only [Act.put, List.setIfInBounds_toArray, List.set_cons_zero, List.set_cons_succ]
                  refine wpAnyH_take (i := 7) (oi := { dst := some 149, op := Op.move (Operand.tmp 148), type := 4, pos := "law.go:75", after := #[{ on := 6, ground := Ground.data }, { on := 4, ground := Ground.chain }], guard := none }) (v := ?_) rfl (by kernel_rfl) (by kernel_rfl) (by kernel_rfl) (fun _ _ _ h => h) (Or.inl ⟨by kernel_rfl, ?_⟩) (by with_reducible assumption) ?_
                  rotate_left 1
                  · (intro w0 hSw; (try dsimp only at hSw); go_simp; (try with_reducible rfl))
                  simp only [Act.put, List.setIfInBounds_toArray, List.set_cons_zero, List.set_cons_succ]
                  refine wpAnyH_take (i := 8) (oi := { dst := some 150, op := Op.load 36 (Operand.tmp 4), type := 36, pos := "law.go:75", after := #[{ on := 7, ground := Ground.guard }], guard := some (7, true) }) (v := undef) rfl (by kernel_rfl) (by kernel_rfl) (by kernel_rfl) (fun _ _ _ h => h) (Or.inr ⟨by kernel_rfl, rfl⟩) (by with_reducible assumption) ?_
                  simp only [Act.put, List.setIfInBounds_toArray, List.set_cons_zero, List.set_cons_succ]
                  refine wpAnyH_take (i := 9) (oi := { dst := some 151, op := Op.load 23 (Operand.tmp 14), type := 23, pos := "law.go:75", after := #[{ on := 7, ground := Ground.guard }], guard := some (7, true) }) (v := undef) rfl (by kernel_rfl) (by kernel_rfl) (by kernel_rfl) (fun _ _ _ h => h) (Or.inr ⟨by kernel_rfl, rfl⟩) (by with_reducible assumption) ?_
                  simp only [Act.put, List.setIfInBounds_toArray, List.set_cons_zero, List.set_cons_succ]
                  refine wpAnyH_take (i := 10) (oi := { dst := some 152, op := Op.call { callee := Callee.value (Operand.func 35), args := #[Operand.tmp 150, Operand.tmp 151], argTypes := #[36, 23] }, type := 4, pos := "law.go:75", after := #[{ on := 8, ground := Ground.data }, { on := 9, ground := Ground.data }, { on := 7, ground := Ground.chain }, { on := 7, ground := Ground.guard }], guard := some (7, true) }) (v := undef) rfl (by kernel_rfl) (by kernel_rfl) (by kernel_rfl) (fun _ _ _ h => h) (Or.inr ⟨by kernel_rfl, rfl⟩) (by with_reducible assumption) ?_
                  simp only [Act.put, List.setIfInBounds_toArray, List.set_cons_zero, List.set_cons_succ]
                  refine wpAnyH_take (i := 11) (oi := { dst := some 153, op := Op.pick (Operand.tmp 149) (Operand.tmp 152) (Operand.const (Value.bool false)), type := 4, pos := "law.go:75", after := #[{ on := 7, ground := Ground.data }, { on := 10, ground := Ground.data }], guard := none }) (v := ?_) rfl (by kernel_rfl) (by kernel_rfl) (by kernel_rfl) (fun _ _ _ h => h) (Or.inl ⟨by kernel_rfl, ?_⟩) (by with_reducible assumption) ?_
                  rotate_left 1
                  · (intro w0 hSw; (try dsimp only at hSw); go_simp; (try with_reducible rfl))
                  simp only [Act.put, List.setIfInBounds_toArray, List.set_cons_zero, List.set_cons_succ]
                  refine wpAnyH_take (i := 12) (oi := { dst := some 154, op := Op.binOp BinOp.neq 4 (Operand.tmp 144) (Operand.tmp 153) 4, type := 4, pos := "law.go:75", after := #[{ on := 2, ground := Ground.data }, { on := 11, ground := Ground.data }], guard := none }) (v := ?_) rfl (by kernel_rfl) (by kernel_rfl) (by kernel_rfl) (fun _ _ _ h => h) (Or.inl ⟨by kernel_rfl, ?_⟩) (by with_reducible assumption) ?_
                  rotate_left 1
                  · (intro w0 hSw; (try dsimp only at hSw); go_simp; (try with_reducible rfl))
                  simp only [Act.put, List.setIfInBounds_toArray, List.set_cons_zero, List.set_cons_succ]
                  refine wpAnyH_take (i := 13) (oi := { dst := some 155, op := Op.move (Operand.tmp 154), type := 4, pos := "law.go:75", after := #[{ on := 12, ground := Ground.data }, { on := 10, ground := Ground.chain }], guard := none }) (v := ?_) rfl (by kernel_rfl) (by kernel_rfl) (by kernel_rfl) (fun _ _ _ h => h) (Or.inl ⟨by kernel_rfl, ?_⟩) (by with_reducible assumption) ?_
                  rotate_left 1
                  · (intro w0 hSw; (try dsimp only at hSw); go_simp; (try with_reducible rfl))
                  simp only [Act.put, List.setIfInBounds_toArray, List.set_cons_zero, List.set_cons_succ]
                  refine wpAnyH_take (i := 14) (oi := { dst := some 156, op := Op.load 36 (Operand.tmp 4), type := 36, pos := "law.go:75", after := #[{ on := 13, ground := Ground.guard }], guard := some (13, false) }) (v := .agg #[.int .i64 r.x0, .int .i64 r.y0, .int .i64 r.x1, .int .i64 r.y1]) rfl (by kernel_rfl) (by kernel_rfl) (by kernel_rfl) (fun _ _ _ h => h) (yieldsIf_load_mid (by kernel_rfl) 36 (.tmp 4) rfl (w.heap.size) (0) (by kernel_rfl) [.int .i64 r.x0, .int .i64 r.y0, .int .i64 r.x1, .int .i64 r.y1] _ (fun W hW => (PA.out _ hW).2.2.1.range) Try.underlying36 rfl (by kernel_rfl)) (by with_reducible assumption) ?_
                  simp only [Act.put, List.setIfInBounds_toArray, List.set_cons_zero, List.set_cons_succ]
                  refine wpAnyH_take (i := 15) (oi := { dst := some 157, op := Op.load 23 (Operand.tmp 14), type := 23, pos := "law.go:75", after := #[{ on := 13, ground := Ground.guard }], guard := some (13, false) }) (v := .agg #[.int .i64 p.x, .int .i64 p.y]) rfl (by kernel_rfl) (by kernel_rfl) (by kernel_rfl) (fun _ _ _ h => h) (yieldsIf_load_mid (by kernel_rfl) 23 (.tmp 14) rfl (wr.heap.size) (0) (by kernel_rfl) [.int .i64 p.x, .int .i64 p.y] _ (fun W hW => (by obtain ⟨e0, e1, _, _⟩ := PA.out _ hW; exact range2 e0 e1)) Try.underlying23 rfl (by kernel_rfl)) (by with_reducible assumption) ?_
                  simp only [Act.put, List.setIfInBounds_toArray, List.set_cons_zero, List.set_cons_succ]
                  refine wpAnyH_take (i := 17) (oi := { dst := some 159, op := Op.move (Operand.tmp 16), type := 43, pos := "law.go:75", after := #[{ on := 13, ground := Ground.guard }], guard := some (13, false) }) (v := ?_) rfl (by kernel_rfl) (by kernel_rfl) (by kernel_rfl) (fun _ _ _ h => h) (Or.inl ⟨by kernel_rfl, ?_⟩) (by with_reducible assumption) ?_
                  rotate_left 1
                  · (intro w0 hSw; (try dsimp only at hSw); go_simp; (try with_reducible rfl))
                  simp only [Act.put, List.setIfInBounds_toArray, List.set_cons_zero, List.set_cons_succ]
                  refine wpAnyH_ready (rs := [16]) (by kernel_rfl) (by simp) ?_
                  refine AllReadyH.cons (o := { dst := some 158, op := Op.call { callee := Callee.value (Operand.func 36), args := #[Operand.tmp 156, Operand.tmp 157], argTypes := #[36, 23] }, type := 43, pos := "law.go:75", after := #[{ on := 14, ground := Ground.data }, { on := 15, ground := Ground.data }, { on := 13, ground := Ground.chain }, { on := 13, ground := Ground.guard }], guard := some (13, false) }) rfl (fun K hK => ?_) AllReadyH.nil
                  go_simp
                  go_wp2_with (go_at_call 36; (with_reducible refine (gN.out _).mono ?_); rintro _ x3 ⟨rfl, l⟩; have hX3 := X1.out.trans (l.mono X1.out.size); have X3 := Lib.hid hX3; clear l)
                  refine hK.out _ _ (by with_reducible assumption) (fun hHeld => ?_)
                  clear hK K
                  refine wpAnyH_take (i := 18) (oi := { dst := some 160, op := Op.binOp BinOp.neq 43 (Operand.tmp 158) (Operand.tmp 159) 43, type := 4, pos := "law.go:75", after := #[{ on := 16, ground := Ground.data }, { on := 17, ground := Ground.data }, { on := 13, ground := Ground.guard }], guard := some (13, false) }) (v := ?_) rfl (by kernel_rfl) (by kernel_rfl) (by kernel_rfl) (fun _ _ _ h => h) (Or.inl ⟨by kernel_rfl, ?_⟩) (by with_reducible assumption) ?_
                  rotate_left 1
                  · (intro w0 hSw; (try dsimp only at hSw); go_simp; (try with_reducible rfl))
                  simp only [Act.put, List.setIfInBounds_toArray, List.set_cons_zero, List.set_cons_succ]
                  refine wpAnyH_take (i := 19) (oi := { dst := some 161, op := Op.pick (Operand.tmp 155) (Operand.const (Value.bool true)) (Operand.tmp 160), type := 4, pos := "law.go:75", after := #[{ on := 13, ground := Ground.data }, { on := 18, ground := Ground.data }], guard := none }) (v := ?_) rfl (by kernel_rfl) (by kernel_rfl) (by kernel_rfl) (fun _ _ _ h => h) (Or.inl ⟨by kernel_rfl, ?_⟩) (by with_reducible assumption) ?_
                  rotate_left 1
                  · (intro w0 hSw; (try dsimp only at hSw); go_simp; (try with_reducible rfl))
                  simp only [Act.put, List.setIfInBounds_toArray, List.set_cons_zero, List.set_cons_succ]
                  refine wpAnyH_take (i := 20) (oi := { dst := some 162, op := Op.move (Operand.tmp 161), type := 4, pos := "law.go:75", after := #[{ on := 19, ground := Ground.data }, { on := 16, ground := Ground.chain }], guard := none }) (v := ?_) rfl (by kernel_rfl) (by kernel_rfl) (by kernel_rfl) (fun _ _ _ h => h) (Or.inl ⟨by kernel_rfl, ?_⟩) (by with_reducible assumption) ?_
                  rotate_left 1
                  · (intro w0 hSw; (try dsimp only at hSw); go_simp; (try with_reducible rfl))
                  simp only [Act.put, List.setIfInBounds_toArray, List.set_cons_zero, List.set_cons_succ]
                  refine wpAnyH_take (i := 21) (oi := { dst := some 163, op := Op.load 23 (Operand.tmp 14), type := 23, pos := "law.go:75", after := #[{ on := 20, ground := Ground.guard }], guard := some (20, false) }) (v := .agg #[.int .i64 p.x, .int .i64 p.y]) rfl (by kernel_rfl) (by kernel_rfl) (by kernel_rfl) (fun _ _ _ h => h) (yieldsIf_load_mid (by kernel_rfl) 23 (.tmp 14) rfl (wr.heap.size) (0) (by kernel_rfl) [.int .i64 p.x, .int .i64 p.y] _ (fun W hW => (by obtain ⟨e0, e1, _, _⟩ := PA.out _ hW; exact range2 e0 e1)) Try.underlying23 rfl (by kernel_rfl)) (by with_reducible assumption) ?_
                  simp only [Act.put, List.setIfInBounds_toArray, List.set_cons_zero, List.set_cons_succ]
                  refine wpAnyH_take (i := 22) (oi := { dst := some 164, op := Op.move (Operand.tmp 0), type := 26, pos := "law.go:75", after := #[{ on := 20, ground := Ground.guard }], guard := some (20, false) }) (v := ?_) rfl (by kernel_rfl) (by kernel_rfl) (by kernel_rfl) (fun _ _ _ h => h) (Or.inl ⟨by kernel_rfl, ?_⟩) (by with_reducible assumption) ?_
                  rotate_left 1
                  · (intro w0 hSw; (try dsimp only at hSw); go_simp; (try with_reducible rfl))
                  simp only [Act.put, List.setIfInBounds_toArray, List.set_cons_zero, List.set_cons_succ]
                  refine wpAnyH_take (i := 26) (oi := { dst := some 168, op := Op.move (Operand.tmp 17), type := 43, pos := "law.go:75", after := #[{ on := 20, ground := Ground.guard }], guard := some (20, false) }) (v := ?_) rfl (by kernel_rfl) (by kernel_rfl) (by kernel_rfl) (fun _ _ _ h => h) (Or.inl ⟨by kernel_rfl, ?_⟩) (by with_reducible assumption) ?_
                  rotate_left 1
                  · (intro w0 hSw; (try dsimp only at hSw); go_simp; (try with_reducible rfl))
                  simp only [Act.put, List.setIfInBounds_toArray, List.set_cons_zero, List.set_cons_succ]
                  refine wpAnyH_take (i := 23) (oi := { dst := some 165, op := Op.indexAddr 26 (Operand.tmp 164) (Operand.const (Value.int IntKind.i64 0)), type := 0, pos := "law.go:75", after := #[{ on := 22, ground := Ground.data }, { on := 20, ground := Ground.guard }], guard := some (20, false) }) (v := ?_) rfl (by kernel_rfl) (by kernel_rfl) (by kernel_rfl) (fun _ _ _ h => h) (Or.inl ⟨by kernel_rfl, ?_⟩) (by with_reducible assumption) ?_
                  rotate_left 1
                  · (intro w0 hSw; (try dsimp only at hSw); go_simp; (try with_reducible rfl))
                  simp only [Act.put, List.setIfInBounds_toArray, List.set_cons_zero, List.set_cons_succ]
                  refine wpAnyH_take (i := 24) (oi := { dst := some 166, op := Op.load 23 (Operand.tmp 165), type := 23, pos := "law.go:75", after := #[{ on := 23, ground := Ground.data }, { on := 20, ground := Ground.guard }], guard := some (20, false) }) (v := .agg #[.int .i64 q.x, .int .i64 q.y]) rfl (by kernel_rfl) (by kernel_rfl) (by kernel_rfl) (fun _ _ _ h => h) (yieldsIf_load_mid (by kernel_rfl) 23 (.tmp 165) rfl (bb) (o) (by kernel_rfl) [.int .i64 q.x, .int .i64 q.y] _ (fun W hW => (by obtain ⟨_, _, _, el⟩ := PA.out _ hW; obtain ⟨_, _, t2, t3⟩ := PT.out _ el; exact range2 t2 t3)) Try.underlying23 rfl (by kernel_rfl)) (by with_reducible assumption) ?_
                  simp only [Act.put, List.setIfInBounds_toArray, List.set_cons_zero, List.set_cons_succ]
                  refine wpAnyH_ready (rs := [25]) (by kernel_rfl) (by simp) ?_
                  refine AllReadyH.cons (o := { dst := some 167, op := Op.call { callee := Callee.value (Operand.func 37), args := #[Operand.tmp 163, Operand.tmp 166], argTypes := #[23, 23] }, type := 43, pos := "law.go:75", after := #[{ on := 21, ground := Ground.data }, { on := 24, ground := Ground.data }, { on := 20, ground := Ground.chain }, { on := 20, ground := Ground.guard }], guard := some (20, false) }) rfl (fun K hK => ?_) AllReadyH.nil
                  go_simp
                  go_wp2_with (go_at_call 37; (with_reducible refine (gD.out _).mono ?_); rintro _ x4 ⟨rfl, l⟩; have hX4 := X3.out.trans (l.mono X3.out.size); have X4 := Lib.hid hX4; clear l)
                  refine hK.out _ _ (by with_reducible assumption) (fun hHeld => ?_)
                  clear hK K
                  refine wpAnyH_take (i := 27) (oi := { dst := some 169, op := Op.binOp BinOp.neq 43 (Operand.tmp 167) (Operand.tmp 168) 43, type := 4, pos := "law.go:75", after := #[{ on := 25, ground := Ground.data }, { on := 26, ground := Ground.data }, { on := 20, ground := Ground.guard }], guard := some (20, false) }) (v := ?_) rfl (by kernel_rfl) (by kernel_rfl) (by kernel_rfl) (fun _ _ _ h => h) (Or.inl ⟨by kernel_rfl, ?_⟩) (by with_reducible assumption) ?_
                  rotate_left 1
                  · (intro w0 hSw; (try dsimp only at hSw); go_simp; (try with_reducible rfl))
                  simp only [Act.put, List.setIfInBounds_toArray, List.set_cons_zero, List.set_cons_succ]
                  refine wpAnyH_take (i := 28) (oi := { dst := some 170, op := Op.pick (Operand.tmp 162) (Operand.const (Value.bool true)) (Operand.tmp 169), type := 4, pos := "law.go:75", after := #[{ on := 20, ground := Ground.data }, { on := 27, ground := Ground.data }], guard := none }) (v := ?_) rfl (by kernel_rfl) (by kernel_rfl) (by kernel_rfl) (fun _ _ _ h => h) (Or.inl ⟨by kernel_rfl, ?_⟩) (by with_reducible assumption) ?_
                  rotate_left 1
                  · (intro w0 hSw; (try dsimp only at hSw); go_simp; (try with_reducible rfl))
                  simp only [Act.put, List.setIfInBounds_toArray, List.set_cons_zero, List.set_cons_succ]
                  refine wpAnyH_done (by kernel_rfl) ?_ _
                  go_wp2_with fail
                  go_roundw
                  case rel => exact ⟨k + 1, by omega, by go_num, LP.out.trans (X4.out.mono LP.out.size)⟩
                  case measure => simp [intOf]; omega
                · obtain rfl := zN.out (by simp)
                  obtain rfl := zH.out (by simp)
                  obtain rfl := zD.out (by simp)
                  obtain ⟨e0, e1, er, el⟩ := PA.out _ Q5.out
                  obtain ⟨c0, c1, c2, c3⟩ := er.cells
                  obtain ⟨t0, t1, t2, t3⟩ := PT.out _ el
                  clear er el
                  go_wp2_with fail
                  clear e0 e1 c0 c1 c2 c3 t0 t1 t2 t3
                  have D23 := Lib.hid (show Below Wp.heap.size Wp _ from Q5.out.drew)
                  refine wp_region_held_drew (S := fun W => Below Wp.heap.size Wp W) (by kernel_rfl) (D23.out) (fun hHeld => ?_)
                  refine wpAnyH_take (i := 0) (oi := { dst := some 142, op := Op.load 36 (Operand.tmp 4), type := 36, pos := "law.go:75", after := #[], guard := none }) (v := .agg #[.int .i64 r.x0, .int .i64 r.y0, .int .i64 r.x1, .int .i64 r.y1]) rfl (by kernel_rfl) (by kernel_rfl) (by kernel_rfl) (fun _ _ _ h => h) (yieldsIf_load_mid (by kernel_rfl) 36 (.tmp 4) rfl (w.heap.size) (0) (by kernel_rfl) [.int .i64 r.x0, .int .i64 r.y0, .int .i64 r.x1, .int .i64 r.y1] _ (fun W hW => (PA.out _ hW).2.2.1.range) Try.underlying36 rfl (by kernel_rfl)) (by with_reducible assumption) ?_
                  simp only [Act.put, List.setIfInBounds_toArray, List.set_cons_zero, List.set_cons_succ]
                  refine wpAnyH_take (i := 1) (oi := { dst := some 143, op := Op.load 23 (Operand.tmp 14), type := 23, pos := "law.go:75", after := #[], guard := none }) (v := .agg #[.int .i64 p.x, .int .i64 p.y]) rfl (by kernel_rfl) (by kernel_rfl) (by kernel_rfl) (fun _ _ _ h => h) (yieldsIf_load_mid (by kernel_rfl) 23 (.tmp 14) rfl (wr.heap.size) (0) (by kernel_rfl) [.int .i64 p.x, .int .i64 p.y] _ (fun W hW => (by obtain ⟨e0, e1, _, _⟩ := PA.out _ hW; exact range2 e0 e1)) Try.underlying23 rfl (by kernel_rfl)) (by with_reducible assumption) ?_
                  simp only [Act.put, List.setIfInBounds_toArray, List.set_cons_zero, List.set_cons_succ]
                  refine wpAnyH_take (i := 3) (oi := { dst := some 145, op := Op.move (Operand.tmp 15), type := 4, pos := "law.go:75", after := #[], guard := none }) (v := ?_) rfl (by kernel_rfl) (by kernel_rfl) (by kernel_rfl) (fun _ _ _ h => h) (Or.inl ⟨by kernel_rfl, ?_⟩) (by with_reducible assumption) ?_
                  rotate_left 1
                  · (intro w0 hSw; (try dsimp only at hSw); go_simp; (try with_reducible rfl))
                  simp only [Act.put, List.setIfInBounds_toArray, List.set_cons_zero, List.set_cons_succ]
                  refine wpAnyH_ready (rs := [2]) (by kernel_rfl) (by simp) ?_
                  refine AllReadyH.cons (o := { dst := some 144, op := Op.call { callee := Callee.value (Operand.func 34), args := #[Operand.tmp 142, Operand.tmp 143], argTypes := #[36, 23] }, type := 4, pos := "law.go:75", after := #[{ on := 0, ground := Ground.data }, { on := 1, ground := Ground.data }], guard := none }) rfl (fun K hK => ?_) AllReadyH.nil
                  go_simp
                  go_wp2_with (go_at_call 34; (with_reducible refine (gH.out _).mono ?_); rintro _ x1 ⟨rfl, l⟩; have hX1 := D23.out.trans (l.mono D23.out.size); have X1 := Lib.hid hX1; clear l)
                  refine hK.out _ _ (by with_reducible assumption) (fun hHeld => ?_)
                  clear hK K
                  refine wpAnyH_take (i := 4) (oi := { dst := some 146, op := Op.move (Operand.tmp 145), type := 4, pos := "law.go:75", after := #[{ on := 3, ground := Ground.data }, { on := 2, ground := Ground.chain }], guard := none }) (v := ?_) rfl (by kernel_rfl) (by kernel_rfl) (by kernel_rfl) (fun _ _ _ h => h) (Or.inl ⟨by kernel_rfl, ?_⟩) (by with_reducible assumption) ?_
                  rotate_left 1
                  · (intro w0 hSw; (try dsimp only at hSw); go_simp; (try with_reducible rfl))
                  simp only [Act.put, List.setIfInBounds_toArray, List.set_cons_zero, List.set_cons_succ]
                  refine wpAnyH_take (i := 5) (oi := { dst := some 147, op := Op.move (Operand.tmp 10), type := 4, pos := "law.go:75", after := #[{ on := 4, ground := Ground.guard }], guard := some (4, true) }) (v := undef) rfl (by kernel_rfl) (by kernel_rfl) (by kernel_rfl) (fun _ _ _ h => h) (Or.inr ⟨by kernel_rfl, rfl⟩) (by with_reducible assumption) ?_
                  simp only [Act.put, List.setIfInBounds_toArray, List.set_cons_zero, List.set_cons_succ]
                  refine wpAnyH_take (i := 6) (oi := { dst := some 148, op := Op.pick (Operand.tmp 146) (Operand.tmp 147) (Operand.const (Value.bool false)), type := 4, pos := "law.go:75", after := #[{ on := 4, ground := Ground.data }, { on := 5, ground := Ground.data }], guard := none }) (v := ?_) rfl (by kernel_rfl) (by kernel_rfl) (by kernel_rfl) (fun _ _ _ h => h) (Or.inl ⟨by kernel_rfl, ?_⟩) (by with_reducible assumption) ?_
                  rotate_left 1
                  · (intro w0 hSw; (try dsimp only at hSw); go_simp; (try with_reducible rfl))
                  simp only [Act.put, List.setIfInBounds_toArray, List.set_cons_zero, List.set_cons_succ]
                  refine wpAnyH_take (i := 7) (oi := { dst := some 149, op := Op.move (Operand.tmp 148), type := 4, pos := "law.go:75", after := #[{ on := 6, ground := Ground.data }, { on := 4, ground := Ground.chain }], guard := none }) (v := ?_) rfl (by kernel_rfl) (by kernel_rfl) (by kernel_rfl) (fun _ _ _ h => h) (Or.inl ⟨by kernel_rfl, ?_⟩) (by with_reducible assumption) ?_
                  rotate_left 1
                  · (intro w0 hSw; (try dsimp only at hSw); go_simp; (try with_reducible rfl))
                  simp only [Act.put, List.setIfInBounds_toArray, List.set_cons_zero, List.set_cons_succ]
                  refine wpAnyH_take (i := 8) (oi := { dst := some 150, op := Op.load 36 (Operand.tmp 4), type := 36, pos := "law.go:75", after := #[{ on := 7, ground := Ground.guard }], guard := some (7, true) }) (v := undef) rfl (by kernel_rfl) (by kernel_rfl) (by kernel_rfl) (fun _ _ _ h => h) (Or.inr ⟨by kernel_rfl, rfl⟩) (by with_reducible assumption) ?_
                  simp only [Act.put, List.setIfInBounds_toArray, List.set_cons_zero, List.set_cons_succ]
                  refine wpAnyH_take (i := 9) (oi := { dst := some 151, op := Op.load 23 (Operand.tmp 14), type := 23, pos := "law.go:75", after := #[{ on := 7, ground := Ground.guard }], guard := some (7, true) }) (v := undef) rfl (by kernel_rfl) (by kernel_rfl) (by kernel_rfl) (fun _ _ _ h => h) (Or.inr ⟨by kernel_rfl, rfl⟩) (by with_reducible assumption) ?_
                  simp only [Act.put, List.setIfInBounds_toArray, List.set_cons_zero, List.set_cons_succ]
                  refine wpAnyH_take (i := 10) (oi := { dst := some 152, op := Op.call { callee := Callee.value (Operand.func 35), args := #[Operand.tmp 150, Operand.tmp 151], argTypes := #[36, 23] }, type := 4, pos := "law.go:75", after := #[{ on := 8, ground := Ground.data }, { on := 9, ground := Ground.data }, { on := 7, ground := Ground.chain }, { on := 7, ground := Ground.guard }], guard := some (7, true) }) (v := undef) rfl (by kernel_rfl) (by kernel_rfl) (by kernel_rfl) (fun _ _ _ h => h) (Or.inr ⟨by kernel_rfl, rfl⟩) (by with_reducible assumption) ?_
                  simp only [Act.put, List.setIfInBounds_toArray, List.set_cons_zero, List.set_cons_succ]
                  refine wpAnyH_take (i := 11) (oi := { dst := some 153, op := Op.pick (Operand.tmp 149) (Operand.tmp 152) (Operand.const (Value.bool false)), type := 4, pos := "law.go:75", after := #[{ on := 7, ground := Ground.data }, { on := 10, ground := Ground.data }], guard := none }) (v := ?_) rfl (by kernel_rfl) (by kernel_rfl) (by kernel_rfl) (fun _ _ _ h => h) (Or.inl ⟨by kernel_rfl, ?_⟩) (by with_reducible assumption) ?_
                  rotate_left 1
                  · (intro w0 hSw; (try dsimp only at hSw); go_simp; (try with_reducible rfl))
                  simp only [Act.put, List.setIfInBounds_toArray, List.set_cons_zero, List.set_cons_succ]
                  refine wpAnyH_take (i := 12) (oi := { dst := some 154, op := Op.binOp BinOp.neq 4 (Operand.tmp 144) (Operand.tmp 153) 4, type := 4, pos := "law.go:75", after := #[{ on := 2, ground := Ground.data }, { on := 11, ground := Ground.data }], guard := none }) (v := ?_) rfl (by kernel_rfl) (by kernel_rfl) (by kernel_rfl) (fun _ _ _ h => h) (Or.inl ⟨by kernel_rfl, ?_⟩) (by with_reducible assumption) ?_
                  rotate_left 1
                  · (intro w0 hSw; (try dsimp only at hSw); go_simp; (try with_reducible rfl))
                  simp only [Act.put, List.setIfInBounds_toArray, List.set_cons_zero, List.set_cons_succ]
                  refine wpAnyH_take (i := 13) (oi := { dst := some 155, op := Op.move (Operand.tmp 154), type := 4, pos := "law.go:75", after := #[{ on := 12, ground := Ground.data }, { on := 10, ground := Ground.chain }], guard := none }) (v := ?_) rfl (by kernel_rfl) (by kernel_rfl) (by kernel_rfl) (fun _ _ _ h => h) (Or.inl ⟨by kernel_rfl, ?_⟩) (by with_reducible assumption) ?_
                  rotate_left 1
                  · (intro w0 hSw; (try dsimp only at hSw); go_simp; (try with_reducible rfl))
                  simp only [Act.put, List.setIfInBounds_toArray, List.set_cons_zero, List.set_cons_succ]
                  refine wpAnyH_take (i := 14) (oi := { dst := some 156, op := Op.load 36 (Operand.tmp 4), type := 36, pos := "law.go:75", after := #[{ on := 13, ground := Ground.guard }], guard := some (13, false) }) (v := .agg #[.int .i64 r.x0, .int .i64 r.y0, .int .i64 r.x1, .int .i64 r.y1]) rfl (by kernel_rfl) (by kernel_rfl) (by kernel_rfl) (fun _ _ _ h => h) (yieldsIf_load_mid (by kernel_rfl) 36 (.tmp 4) rfl (w.heap.size) (0) (by kernel_rfl) [.int .i64 r.x0, .int .i64 r.y0, .int .i64 r.x1, .int .i64 r.y1] _ (fun W hW => (PA.out _ hW).2.2.1.range) Try.underlying36 rfl (by kernel_rfl)) (by with_reducible assumption) ?_
                  simp only [Act.put, List.setIfInBounds_toArray, List.set_cons_zero, List.set_cons_succ]
                  refine wpAnyH_take (i := 15) (oi := { dst := some 157, op := Op.load 23 (Operand.tmp 14), type := 23, pos := "law.go:75", after := #[{ on := 13, ground := Ground.guard }], guard := some (13, false) }) (v := .agg #[.int .i64 p.x, .int .i64 p.y]) rfl (by kernel_rfl) (by kernel_rfl) (by kernel_rfl) (fun _ _ _ h => h) (yieldsIf_load_mid (by kernel_rfl) 23 (.tmp 14) rfl (wr.heap.size) (0) (by kernel_rfl) [.int .i64 p.x, .int .i64 p.y] _ (fun W hW => (by obtain ⟨e0, e1, _, _⟩ := PA.out _ hW; exact range2 e0 e1)) Try.underlying23 rfl (by kernel_rfl)) (by with_reducible assumption) ?_
                  simp only [Act.put, List.setIfInBounds_toArray, List.set_cons_zero, List.set_cons_succ]
                  refine wpAnyH_take (i := 17) (oi := { dst := some 159, op := Op.move (Operand.tmp 16), type := 43, pos := "law.go:75", after := #[{ on := 13, ground := Ground.guard }], guard := some (13, false) }) (v := ?_) rfl (by kernel_rfl) (by kernel_rfl) (by kernel_rfl) (fun _ _ _ h => h) (Or.inl ⟨by kernel_rfl, ?_⟩) (by with_reducible assumption) ?_
                  rotate_left 1
                  · (intro w0 hSw; (try dsimp only at hSw); go_simp; (try with_reducible rfl))
                  simp only [Act.put, List.setIfInBounds_toArray, List.set_cons_zero, List.set_cons_succ]
                  refine wpAnyH_ready (rs := [16]) (by kernel_rfl) (by simp) ?_
                  refine AllReadyH.cons (o := { dst := some 158, op := Op.call { callee := Callee.value (Operand.func 36), args := #[Operand.tmp 156, Operand.tmp 157], argTypes := #[36, 23] }, type := 43, pos := "law.go:75", after := #[{ on := 14, ground := Ground.data }, { on := 15, ground := Ground.data }, { on := 13, ground := Ground.chain }, { on := 13, ground := Ground.guard }], guard := some (13, false) }) rfl (fun K hK => ?_) AllReadyH.nil
                  go_simp
                  go_wp2_with (go_at_call 36; (with_reducible refine (gN.out _).mono ?_); rintro _ x3 ⟨rfl, l⟩; have hX3 := X1.out.trans (l.mono X1.out.size); have X3 := Lib.hid hX3; clear l)
                  refine hK.out _ _ (by with_reducible assumption) (fun hHeld => ?_)
                  clear hK K
                  refine wpAnyH_take (i := 18) (oi := { dst := some 160, op := Op.binOp BinOp.neq 43 (Operand.tmp 158) (Operand.tmp 159) 43, type := 4, pos := "law.go:75", after := #[{ on := 16, ground := Ground.data }, { on := 17, ground := Ground.data }, { on := 13, ground := Ground.guard }], guard := some (13, false) }) (v := ?_) rfl (by kernel_rfl) (by kernel_rfl) (by kernel_rfl) (fun _ _ _ h => h) (Or.inl ⟨by kernel_rfl, ?_⟩) (by with_reducible assumption) ?_
                  rotate_left 1
                  · (intro w0 hSw; (try dsimp only at hSw); go_simp; (try with_reducible rfl))
                  simp only [Act.put, List.setIfInBounds_toArray, List.set_cons_zero, List.set_cons_succ]
                  refine wpAnyH_take (i := 19) (oi := { dst := some 161, op := Op.pick (Operand.tmp 155) (Operand.const (Value.bool true)) (Operand.tmp 160), type := 4, pos := "law.go:75", after := #[{ on := 13, ground := Ground.data }, { on := 18, ground := Ground.data }], guard := none }) (v := ?_) rfl (by kernel_rfl) (by kernel_rfl) (by kernel_rfl) (fun _ _ _ h => h) (Or.inl ⟨by kernel_rfl, ?_⟩) (by with_reducible assumption) ?_
                  rotate_left 1
                  · (intro w0 hSw; (try dsimp only at hSw); go_simp; (try with_reducible rfl))
                  simp only [Act.put, List.setIfInBounds_toArray, List.set_cons_zero, List.set_cons_succ]
                  refine wpAnyH_take (i := 20) (oi := { dst := some 162, op := Op.move (Operand.tmp 161), type := 4, pos := "law.go:75", after := #[{ on := 19, ground := Ground.data }, { on := 16, ground := Ground.chain }], guard := none }) (v := ?_) rfl (by kernel_rfl) (by kernel_rfl) (by kernel_rfl) (fun _ _ _ h => h) (Or.inl ⟨by kernel_rfl, ?_⟩) (by with_reducible assumption) ?_
                  rotate_left 1
                  · (intro w0 hSw; (try dsimp only at hSw); go_simp; (try with_reducible rfl))
                  simp only [Act.put, List.setIfInBounds_toArray, List.set_cons_zero, List.set_cons_succ]
                  refine wpAnyH_take (i := 21) (oi := { dst := some 163, op := Op.load 23 (Operand.tmp 14), type := 23, pos := "law.go:75", after := #[{ on := 20, ground := Ground.guard }], guard := some (20, false) }) (v := .agg #[.int .i64 p.x, .int .i64 p.y]) rfl (by kernel_rfl) (by kernel_rfl) (by kernel_rfl) (fun _ _ _ h => h) (yieldsIf_load_mid (by kernel_rfl) 23 (.tmp 14) rfl (wr.heap.size) (0) (by kernel_rfl) [.int .i64 p.x, .int .i64 p.y] _ (fun W hW => (by obtain ⟨e0, e1, _, _⟩ := PA.out _ hW; exact range2 e0 e1)) Try.underlying23 rfl (by kernel_rfl)) (by with_reducible assumption) ?_
                  simp only [Act.put, List.setIfInBounds_toArray, List.set_cons_zero, List.set_cons_succ]
                  refine wpAnyH_take (i := 22) (oi := { dst := some 164, op := Op.move (Operand.tmp 0), type := 26, pos := "law.go:75", after := #[{ on := 20, ground := Ground.guard }], guard := some (20, false) }) (v := ?_) rfl (by kernel_rfl) (by kernel_rfl) (by kernel_rfl) (fun _ _ _ h => h) (Or.inl ⟨by kernel_rfl, ?_⟩) (by with_reducible assumption) ?_
                  rotate_left 1
                  · (intro w0 hSw; (try dsimp only at hSw); go_simp; (try with_reducible rfl))
                  simp only [Act.put, List.setIfInBounds_toArray, List.set_cons_zero, List.set_cons_succ]
                  refine wpAnyH_take (i := 26) (oi := { dst := some 168, op := Op.move (Operand.tmp 17), type := 43, pos := "law.go:75", after := #[{ on := 20, ground := Ground.guard }], guard := some (20, false) }) (v := ?_) rfl (by kernel_rfl) (by kernel_rfl) (by kernel_rfl) (fun _ _ _ h => h) (Or.inl ⟨by kernel_rfl, ?_⟩) (by with_reducible assumption) ?_
                  rotate_left 1
                  · (intro w0 hSw; (try dsimp only at hSw); go_simp; (try with_reducible rfl))
                  simp only [Act.put, List.setIfInBounds_toArray, List.set_cons_zero, List.set_cons_succ]
                  refine wpAnyH_take (i := 23) (oi := { dst := some 165, op := Op.indexAddr 26 (Operand.tmp 164) (Operand.const (Value.int IntKind.i64 0)), type := 0, pos := "law.go:75", after := #[{ on := 22, ground := Ground.data }, { on := 20, ground := Ground.guard }], guard := some (20, false) }) (v := ?_) rfl (by kernel_rfl) (by kernel_rfl) (by kernel_rfl) (fun _ _ _ h => h) (Or.inl ⟨by kernel_rfl, ?_⟩) (by with_reducible assumption) ?_
                  rotate_left 1
                  · (intro w0 hSw; (try dsimp only at hSw); go_simp; (try with_reducible rfl))
                  simp only [Act.put, List.setIfInBounds_toArray, List.set_cons_zero, List.set_cons_succ]
                  refine wpAnyH_take (i := 24) (oi := { dst := some 166, op := Op.load 23 (Operand.tmp 165), type := 23, pos := "law.go:75", after := #[{ on := 23, ground := Ground.data }, { on := 20, ground := Ground.guard }], guard := some (20, false) }) (v := .agg #[.int .i64 q.x, .int .i64 q.y]) rfl (by kernel_rfl) (by kernel_rfl) (by kernel_rfl) (fun _ _ _ h => h) (yieldsIf_load_mid (by kernel_rfl) 23 (.tmp 165) rfl (bb) (o) (by kernel_rfl) [.int .i64 q.x, .int .i64 q.y] _ (fun W hW => (by obtain ⟨_, _, _, el⟩ := PA.out _ hW; obtain ⟨_, _, t2, t3⟩ := PT.out _ el; exact range2 t2 t3)) Try.underlying23 rfl (by kernel_rfl)) (by with_reducible assumption) ?_
                  simp only [Act.put, List.setIfInBounds_toArray, List.set_cons_zero, List.set_cons_succ]
                  refine wpAnyH_ready (rs := [25]) (by kernel_rfl) (by simp) ?_
                  refine AllReadyH.cons (o := { dst := some 167, op := Op.call { callee := Callee.value (Operand.func 37), args := #[Operand.tmp 163, Operand.tmp 166], argTypes := #[23, 23] }, type := 43, pos := "law.go:75", after := #[{ on := 21, ground := Ground.data }, { on := 24, ground := Ground.data }, { on := 20, ground := Ground.chain }, { on := 20, ground := Ground.guard }], guard := some (20, false) }) rfl (fun K hK => ?_) AllReadyH.nil
                  go_simp
                  go_wp2_with (go_at_call 37; (with_reducible refine (gD.out _).mono ?_); rintro _ x4 ⟨rfl, l⟩; have hX4 := X3.out.trans (l.mono X3.out.size); have X4 := Lib.hid hX4; clear l)
                  refine hK.out _ _ (by with_reducible assumption) (fun hHeld => ?_)
                  clear hK K
                  refine wpAnyH_take (i := 27) (oi := { dst := some 169, op := Op.binOp BinOp.neq 43 (Operand.tmp 167) (Operand.tmp 168) 43, type := 4, pos := "law.go:75", after := #[{ on := 25, ground := Ground.data }, { on := 26, ground := Ground.data }, { on := 20, ground := Ground.guard }], guard := some (20, false) }) (v := ?_) rfl (by kernel_rfl) (by kernel_rfl) (by kernel_rfl) (fun _ _ _ h => h) (Or.inl ⟨by kernel_rfl, ?_⟩) (by with_reducible assumption) ?_
                  rotate_left 1
                  · (intro w0 hSw; (try dsimp only at hSw); go_simp; (try with_reducible rfl))
                  simp only [Act.put, List.setIfInBounds_toArray, List.set_cons_zero, List.set_cons_succ]
                  refine wpAnyH_take (i := 28) (oi := { dst := some 170, op := Op.pick (Operand.tmp 162) (Operand.const (Value.bool true)) (Operand.tmp 169), type := 4, pos := "law.go:75", after := #[{ on := 20, ground := Ground.data }, { on := 27, ground := Ground.data }], guard := none }) (v := ?_) rfl (by kernel_rfl) (by kernel_rfl) (by kernel_rfl) (fun _ _ _ h => h) (Or.inl ⟨by kernel_rfl, ?_⟩) (by with_reducible assumption) ?_
                  rotate_left 1
                  · (intro w0 hSw; (try dsimp only at hSw); go_simp; (try with_reducible rfl))
                  simp only [Act.put, List.setIfInBounds_toArray, List.set_cons_zero, List.set_cons_succ]
                  refine wpAnyH_done (by kernel_rfl) ?_ _
                  go_wp2_with fail
                  go_roundw
                  case rel => exact ⟨k + 1, by omega, by go_num, LP.out.trans (X4.out.mono LP.out.size)⟩
                  case measure => simp [intOf]; omega
                · obtain rfl := zN.out (by simp)
                  obtain rfl := zH.out (by simp)
                  obtain rfl := zD.out (by simp)
                  obtain ⟨e0, e1, er, el⟩ := PA.out _ Q5.out
                  obtain ⟨c0, c1, c2, c3⟩ := er.cells
                  obtain ⟨t0, t1, t2, t3⟩ := PT.out _ el
                  clear er el
                  go_wp2_with fail
                  clear e0 e1 c0 c1 c2 c3 t0 t1 t2 t3
                  (with_reducible refine (mQ.out _).mono ?_); rintro _ w7 ⟨rfl, l⟩
                  have Q7 := Lib.hid (Q5.out.trans (l.mono Q5.out.size))
                  clear l
                  obtain ⟨e0, e1, er, el⟩ := PA.out _ Q7.out
                  obtain ⟨c0, c1, c2, c3⟩ := er.cells
                  obtain ⟨t0, t1, t2, t3⟩ := PT.out _ el
                  clear er el
                  go_wp2_with fail
                  clear e0 e1 c0 c1 c2 c3 t0 t1 t2 t3
                  have D23 := Lib.hid (show Below Wp.heap.size Wp _ from Q7.out.drew)
                  refine wp_region_held_drew (S := fun W => Below Wp.heap.size Wp W) (by kernel_rfl) (D23.out) (fun hHeld => ?_)
                  refine wpAnyH_take (i := 0) (oi := { dst := some 142, op := Op.load 36 (Operand.tmp 4), type := 36, pos := "law.go:75", after := #[], guard := none }) (v := .agg #[.int .i64 r.x0, .int .i64 r.y0, .int .i64 r.x1, .int .i64 r.y1]) rfl (by kernel_rfl) (by kernel_rfl) (by kernel_rfl) (fun _ _ _ h => h) (yieldsIf_load_mid (by kernel_rfl) 36 (.tmp 4) rfl (w.heap.size) (0) (by kernel_rfl) [.int .i64 r.x0, .int .i64 r.y0, .int .i64 r.x1, .int .i64 r.y1] _ (fun W hW => (PA.out _ hW).2.2.1.range) Try.underlying36 rfl (by kernel_rfl)) (by with_reducible assumption) ?_
                  simp only [Act.put, List.setIfInBounds_toArray, List.set_cons_zero, List.set_cons_succ]
                  refine wpAnyH_take (i := 1) (oi := { dst := some 143, op := Op.load 23 (Operand.tmp 14), type := 23, pos := "law.go:75", after := #[], guard := none }) (v := .agg #[.int .i64 p.x, .int .i64 p.y]) rfl (by kernel_rfl) (by kernel_rfl) (by kernel_rfl) (fun _ _ _ h => h) (yieldsIf_load_mid (by kernel_rfl) 23 (.tmp 14) rfl (wr.heap.size) (0) (by kernel_rfl) [.int .i64 p.x, .int .i64 p.y] _ (fun W hW => (by obtain ⟨e0, e1, _, _⟩ := PA.out _ hW; exact range2 e0 e1)) Try.underlying23 rfl (by kernel_rfl)) (by with_reducible assumption) ?_
                  simp only [Act.put, List.setIfInBounds_toArray, List.set_cons_zero, List.set_cons_succ]
                  refine wpAnyH_take (i := 3) (oi := { dst := some 145, op := Op.move (Operand.tmp 15), type := 4, pos := "law.go:75", after := #[], guard := none }) (v := ?_) rfl (by kernel_rfl) (by kernel_rfl) (by kernel_rfl) (fun _ _ _ h => h) (Or.inl ⟨by kernel_rfl, ?_⟩) (by with_reducible assumption) ?_
                  rotate_left 1
                  · (intro w0 hSw; (try dsimp only at hSw); go_simp; (try with_reducible rfl))
                  simp only [Act.put, List.setIfInBounds_toArray, List.set_cons_zero, List.set_cons_succ]
                  refine wpAnyH_ready (rs := [2]) (by kernel_rfl) (by simp) ?_
                  refine AllReadyH.cons (o := { dst := some 144, op := Op.call { callee := Callee.value (Operand.func 34), args := #[Operand.tmp 142, Operand.tmp 143], argTypes := #[36, 23] }, type := 4, pos := "law.go:75", after := #[{ on := 0, ground := Ground.data }, { on := 1, ground := Ground.data }], guard := none }) rfl (fun K hK => ?_) AllReadyH.nil
                  go_simp
                  go_wp2_with (go_at_call 34; (with_reducible refine (gH.out _).mono ?_); rintro _ x1 ⟨rfl, l⟩; have hX1 := D23.out.trans (l.mono D23.out.size); have X1 := Lib.hid hX1; clear l)
                  refine hK.out _ _ (by with_reducible assumption) (fun hHeld => ?_)
                  clear hK K
                  refine wpAnyH_take (i := 4) (oi := { dst := some 146, op := Op.move (Operand.tmp 145), type := 4, pos := "law.go:75", after := #[{ on := 3, ground := Ground.data }, { on := 2, ground := Ground.chain }], guard := none }) (v := ?_) rfl (by kernel_rfl) (by kernel_rfl) (by kernel_rfl) (fun _ _ _ h => h) (Or.inl ⟨by kernel_rfl, ?_⟩) (by with_reducible assumption) ?_
                  rotate_left 1
                  · (intro w0 hSw; (try dsimp only at hSw); go_simp; (try with_reducible rfl))
                  simp only [Act.put, List.setIfInBounds_toArray, List.set_cons_zero, List.set_cons_succ]
                  refine wpAnyH_take (i := 5) (oi := { dst := some 147, op := Op.move (Operand.tmp 10), type := 4, pos := "law.go:75", after := #[{ on := 4, ground := Ground.guard }], guard := some (4, true) }) (v := ?_) rfl (by kernel_rfl) (by kernel_rfl) (by kernel_rfl) (fun _ _ _ h => h) (Or.inl ⟨by kernel_rfl, ?_⟩) (by with_reducible assumption) ?_
                  rotate_left 1
                  · (intro w0 hSw; (try dsimp only at hSw); go_simp; (try with_reducible rfl))
                  simp only [Act.put, List.setIfInBounds_toArray, List.set_cons_zero, List.set_cons_succ]
                  refine wpAnyH_take (i := 6) (oi := { dst := some 148, op := Op.pick (Operand.tmp 146) (Operand.tmp 147) (Operand.const (Value.bool false)), type := 4, pos := "law.go:75", after := #[{ on := 4, ground := Ground.data }, { on := 5, ground := Ground.data }], guard := none }) (v := ?_) rfl (by kernel_rfl) (by kernel_rfl) (by kernel_rfl) (fun _ _ _ h => h) (Or.inl ⟨by kernel_rfl, ?_⟩) (by with_reducible assumption) ?_
                  rotate_left 1
                  · (intro w0 hSw; (try dsimp only at hSw); go_simp; (try with_reducible rfl))
                  simp only [Act.put, List.setIfInBounds_toArray, List.set_cons_zero, List.set_cons_succ]
                  refine wpAnyH_take (i := 7) (oi := { dst := some 149, op := Op.move (Operand.tmp 148), type := 4, pos := "law.go:75", after := #[{ on := 6, ground := Ground.data }, { on := 4, ground := Ground.chain }], guard := none }) (v := ?_) rfl (by kernel_rfl) (by kernel_rfl) (by kernel_rfl) (fun _ _ _ h => h) (Or.inl ⟨by kernel_rfl, ?_⟩) (by with_reducible assumption) ?_
                  rotate_left 1
                  · (intro w0 hSw; (try dsimp only at hSw); go_simp; (try with_reducible rfl))
                  simp only [Act.put, List.setIfInBounds_toArray, List.set_cons_zero, List.set_cons_succ]
                  refine wpAnyH_take (i := 8) (oi := { dst := some 150, op := Op.load 36 (Operand.tmp 4), type := 36, pos := "law.go:75", after := #[{ on := 7, ground := Ground.guard }], guard := some (7, true) }) (v := undef) rfl (by kernel_rfl) (by kernel_rfl) (by kernel_rfl) (fun _ _ _ h => h) (Or.inr ⟨by kernel_rfl, rfl⟩) (by with_reducible assumption) ?_
                  simp only [Act.put, List.setIfInBounds_toArray, List.set_cons_zero, List.set_cons_succ]
                  refine wpAnyH_take (i := 9) (oi := { dst := some 151, op := Op.load 23 (Operand.tmp 14), type := 23, pos := "law.go:75", after := #[{ on := 7, ground := Ground.guard }], guard := some (7, true) }) (v := undef) rfl (by kernel_rfl) (by kernel_rfl) (by kernel_rfl) (fun _ _ _ h => h) (Or.inr ⟨by kernel_rfl, rfl⟩) (by with_reducible assumption) ?_
                  simp only [Act.put, List.setIfInBounds_toArray, List.set_cons_zero, List.set_cons_succ]
                  refine wpAnyH_take (i := 10) (oi := { dst := some 152, op := Op.call { callee := Callee.value (Operand.func 35), args := #[Operand.tmp 150, Operand.tmp 151], argTypes := #[36, 23] }, type := 4, pos := "law.go:75", after := #[{ on := 8, ground := Ground.data }, { on := 9, ground := Ground.data }, { on := 7, ground := Ground.chain }, { on := 7, ground := Ground.guard }], guard := some (7, true) }) (v := undef) rfl (by kernel_rfl) (by kernel_rfl) (by kernel_rfl) (fun _ _ _ h => h) (Or.inr ⟨by kernel_rfl, rfl⟩) (by with_reducible assumption) ?_
                  simp only [Act.put, List.setIfInBounds_toArray, List.set_cons_zero, List.set_cons_succ]
                  refine wpAnyH_take (i := 11) (oi := { dst := some 153, op := Op.pick (Operand.tmp 149) (Operand.tmp 152) (Operand.const (Value.bool false)), type := 4, pos := "law.go:75", after := #[{ on := 7, ground := Ground.data }, { on := 10, ground := Ground.data }], guard := none }) (v := ?_) rfl (by kernel_rfl) (by kernel_rfl) (by kernel_rfl) (fun _ _ _ h => h) (Or.inl ⟨by kernel_rfl, ?_⟩) (by with_reducible assumption) ?_
                  rotate_left 1
                  · (intro w0 hSw; (try dsimp only at hSw); go_simp; (try with_reducible rfl))
                  simp only [Act.put, List.setIfInBounds_toArray, List.set_cons_zero, List.set_cons_succ]
                  refine wpAnyH_take (i := 12) (oi := { dst := some 154, op := Op.binOp BinOp.neq 4 (Operand.tmp 144) (Operand.tmp 153) 4, type := 4, pos := "law.go:75", after := #[{ on := 2, ground := Ground.data }, { on := 11, ground := Ground.data }], guard := none }) (v := ?_) rfl (by kernel_rfl) (by kernel_rfl) (by kernel_rfl) (fun _ _ _ h => h) (Or.inl ⟨by kernel_rfl, ?_⟩) (by with_reducible assumption) ?_
                  rotate_left 1
                  · (intro w0 hSw; (try dsimp only at hSw); go_simp; (try with_reducible rfl))
                  simp only [Act.put, List.setIfInBounds_toArray, List.set_cons_zero, List.set_cons_succ]
                  refine wpAnyH_take (i := 13) (oi := { dst := some 155, op := Op.move (Operand.tmp 154), type := 4, pos := "law.go:75", after := #[{ on := 12, ground := Ground.data }, { on := 10, ground := Ground.chain }], guard := none }) (v := ?_) rfl (by kernel_rfl) (by kernel_rfl) (by kernel_rfl) (fun _ _ _ h => h) (Or.inl ⟨by kernel_rfl, ?_⟩) (by with_reducible assumption) ?_
                  rotate_left 1
                  · (intro w0 hSw; (try dsimp only at hSw); go_simp; (try with_reducible rfl))
                  simp only [Act.put, List.setIfInBounds_toArray, List.set_cons_zero, List.set_cons_succ]
                  refine wpAnyH_take (i := 14) (oi := { dst := some 156, op := Op.load 36 (Operand.tmp 4), type := 36, pos := "law.go:75", after := #[{ on := 13, ground := Ground.guard }], guard := some (13, false) }) (v := .agg #[.int .i64 r.x0, .int .i64 r.y0, .int .i64 r.x1, .int .i64 r.y1]) rfl (by kernel_rfl) (by kernel_rfl) (by kernel_rfl) (fun _ _ _ h => h) (yieldsIf_load_mid (by kernel_rfl) 36 (.tmp 4) rfl (w.heap.size) (0) (by kernel_rfl) [.int .i64 r.x0, .int .i64 r.y0, .int .i64 r.x1, .int .i64 r.y1] _ (fun W hW => (PA.out _ hW).2.2.1.range) Try.underlying36 rfl (by kernel_rfl)) (by with_reducible assumption) ?_
                  simp only [Act.put, List.setIfInBounds_toArray, List.set_cons_zero, List.set_cons_succ]
                  refine wpAnyH_take (i := 15) (oi := { dst := some 157, op := Op.load 23 (Operand.tmp 14), type := 23, pos := "law.go:75", after := #[{ on := 13, ground := Ground.guard }], guard := some (13, false) }) (v := .agg #[.int .i64 p.x, .int .i64 p.y]) rfl (by kernel_rfl) (by kernel_rfl) (by kernel_rfl) (fun _ _ _ h => h) (yieldsIf_load_mid (by kernel_rfl) 23 (.tmp 14) rfl (wr.heap.size) (0) (by kernel_rfl) [.int .i64 p.x, .int .i64 p.y] _ (fun W hW => (by obtain ⟨e0, e1, _, _⟩ := PA.out _ hW; exact range2 e0 e1)) Try.underlying23 rfl (by kernel_rfl)) (by with_reducible assumption) ?_
                  simp only [Act.put, List.setIfInBounds_toArray, List.set_cons_zero, List.set_cons_succ]
                  refine wpAnyH_take (i := 17) (oi := { dst := some 159, op := Op.move (Operand.tmp 16), type := 43, pos := "law.go:75", after := #[{ on := 13, ground := Ground.guard }], guard := some (13, false) }) (v := ?_) rfl (by kernel_rfl) (by kernel_rfl) (by kernel_rfl) (fun _ _ _ h => h) (Or.inl ⟨by kernel_rfl, ?_⟩) (by with_reducible assumption) ?_
                  rotate_left 1
                  · (intro w0 hSw; (try dsimp only at hSw); go_simp; (try with_reducible rfl))
                  simp only [Act.put, List.setIfInBounds_toArray, List.set_cons_zero, List.set_cons_succ]
                  refine wpAnyH_ready (rs := [16]) (by kernel_rfl) (by simp) ?_
                  refine AllReadyH.cons (o := { dst := some 158, op := Op.call { callee := Callee.value (Operand.func 36), args := #[Operand.tmp 156, Operand.tmp 157], argTypes := #[36, 23] }, type := 43, pos := "law.go:75", after := #[{ on := 14, ground := Ground.data }, { on := 15, ground := Ground.data }, { on := 13, ground := Ground.chain }, { on := 13, ground := Ground.guard }], guard := some (13, false) }) rfl (fun K hK => ?_) AllReadyH.nil
                  go_simp
                  go_wp2_with (go_at_call 36; (with_reducible refine (gN.out _).mono ?_); rintro _ x3 ⟨rfl, l⟩; have hX3 := X1.out.trans (l.mono X1.out.size); have X3 := Lib.hid hX3; clear l)
                  refine hK.out _ _ (by with_reducible assumption) (fun hHeld => ?_)
                  clear hK K
                  refine wpAnyH_take (i := 18) (oi := { dst := some 160, op := Op.binOp BinOp.neq 43 (Operand.tmp 158) (Operand.tmp 159) 43, type := 4, pos := "law.go:75", after := #[{ on := 16, ground := Ground.data }, { on := 17, ground := Ground.data }, { on := 13, ground := Ground.guard }], guard := some (13, false) }) (v := ?_) rfl (by kernel_rfl) (by kernel_rfl) (by kernel_rfl) (fun _ _ _ h => h) (Or.inl ⟨by kernel_rfl, ?_⟩) (by with_reducible assumption) ?_
                  rotate_left 1
                  · (intro w0 hSw; (try dsimp only at hSw); go_simp; (try with_reducible rfl))
                  simp only [Act.put, List.setIfInBounds_toArray, List.set_cons_zero, List.set_cons_succ]
                  refine wpAnyH_take (i := 19) (oi := { dst := some 161, op := Op.pick (Operand.tmp 155) (Operand.const (Value.bool true)) (Operand.tmp 160), type := 4, pos := "law.go:75", after := #[{ on := 13, ground := Ground.data }, { on := 18, ground := Ground.data }], guard := none }) (v := ?_) rfl (by kernel_rfl) (by kernel_rfl) (by kernel_rfl) (fun _ _ _ h => h) (Or.inl ⟨by kernel_rfl, ?_⟩) (by with_reducible assumption) ?_
                  rotate_left 1
                  · (intro w0 hSw; (try dsimp only at hSw); go_simp; (try with_reducible rfl))
                  simp only [Act.put, List.setIfInBounds_toArray, List.set_cons_zero, List.set_cons_succ]
                  refine wpAnyH_take (i := 20) (oi := { dst := some 162, op := Op.move (Operand.tmp 161), type := 4, pos := "law.go:75", after := #[{ on := 19, ground := Ground.data }, { on := 16, ground := Ground.chain }], guard := none }) (v := ?_) rfl (by kernel_rfl) (by kernel_rfl) (by kernel_rfl) (fun _ _ _ h => h) (Or.inl ⟨by kernel_rfl, ?_⟩) (by with_reducible assumption) ?_
                  rotate_left 1
                  · (intro w0 hSw; (try dsimp only at hSw); go_simp; (try with_reducible rfl))
                  simp only [Act.put, List.setIfInBounds_toArray, List.set_cons_zero, List.set_cons_succ]
                  refine wpAnyH_take (i := 21) (oi := { dst := some 163, op := Op.load 23 (Operand.tmp 14), type := 23, pos := "law.go:75", after := #[{ on := 20, ground := Ground.guard }], guard := some (20, false) }) (v := .agg #[.int .i64 p.x, .int .i64 p.y]) rfl (by kernel_rfl) (by kernel_rfl) (by kernel_rfl) (fun _ _ _ h => h) (yieldsIf_load_mid (by kernel_rfl) 23 (.tmp 14) rfl (wr.heap.size) (0) (by kernel_rfl) [.int .i64 p.x, .int .i64 p.y] _ (fun W hW => (by obtain ⟨e0, e1, _, _⟩ := PA.out _ hW; exact range2 e0 e1)) Try.underlying23 rfl (by kernel_rfl)) (by with_reducible assumption) ?_
                  simp only [Act.put, List.setIfInBounds_toArray, List.set_cons_zero, List.set_cons_succ]
                  refine wpAnyH_take (i := 22) (oi := { dst := some 164, op := Op.move (Operand.tmp 0), type := 26, pos := "law.go:75", after := #[{ on := 20, ground := Ground.guard }], guard := some (20, false) }) (v := ?_) rfl (by kernel_rfl) (by kernel_rfl) (by kernel_rfl) (fun _ _ _ h => h) (Or.inl ⟨by kernel_rfl, ?_⟩) (by with_reducible assumption) ?_
                  rotate_left 1
                  · (intro w0 hSw; (try dsimp only at hSw); go_simp; (try with_reducible rfl))
                  simp only [Act.put, List.setIfInBounds_toArray, List.set_cons_zero, List.set_cons_succ]
                  refine wpAnyH_take (i := 26) (oi := { dst := some 168, op := Op.move (Operand.tmp 17), type := 43, pos := "law.go:75", after := #[{ on := 20, ground := Ground.guard }], guard := some (20, false) }) (v := ?_) rfl (by kernel_rfl) (by kernel_rfl) (by kernel_rfl) (fun _ _ _ h => h) (Or.inl ⟨by kernel_rfl, ?_⟩) (by with_reducible assumption) ?_
                  rotate_left 1
                  · (intro w0 hSw; (try dsimp only at hSw); go_simp; (try with_reducible rfl))
                  simp only [Act.put, List.setIfInBounds_toArray, List.set_cons_zero, List.set_cons_succ]
                  refine wpAnyH_take (i := 23) (oi := { dst := some 165, op := Op.indexAddr 26 (Operand.tmp 164) (Operand.const (Value.int IntKind.i64 0)), type := 0, pos := "law.go:75", after := #[{ on := 22, ground := Ground.data }, { on := 20, ground := Ground.guard }], guard := some (20, false) }) (v := ?_) rfl (by kernel_rfl) (by kernel_rfl) (by kernel_rfl) (fun _ _ _ h => h) (Or.inl ⟨by kernel_rfl, ?_⟩) (by with_reducible assumption) ?_
                  rotate_left 1
                  · (intro w0 hSw; (try dsimp only at hSw); go_simp; (try with_reducible rfl))
                  simp only [Act.put, List.setIfInBounds_toArray, List.set_cons_zero, List.set_cons_succ]
                  refine wpAnyH_take (i := 24) (oi := { dst := some 166, op := Op.load 23 (Operand.tmp 165), type := 23, pos := "law.go:75", after := #[{ on := 23, ground := Ground.data }, { on := 20, ground := Ground.guard }], guard := some (20, false) }) (v := .agg #[.int .i64 q.x, .int .i64 q.y]) rfl (by kernel_rfl) (by kernel_rfl) (by kernel_rfl) (fun _ _ _ h => h) (yieldsIf_load_mid (by kernel_rfl) 23 (.tmp 165) rfl (bb) (o) (by kernel_rfl) [.int .i64 q.x, .int .i64 q.y] _ (fun W hW => (by obtain ⟨_, _, _, el⟩ := PA.out _ hW; obtain ⟨_, _, t2, t3⟩ := PT.out _ el; exact range2 t2 t3)) Try.underlying23 rfl (by kernel_rfl)) (by with_reducible assumption) ?_
                  simp only [Act.put, List.setIfInBounds_toArray, List.set_cons_zero, List.set_cons_succ]
                  refine wpAnyH_ready (rs := [25]) (by kernel_rfl) (by simp) ?_
                  refine AllReadyH.cons (o := { dst := some 167, op := Op.call { callee := Callee.value (Operand.func 37), args := #[Operand.tmp 163, Operand.tmp 166], argTypes := #[23, 23] }, type := 43, pos := "law.go:75", after := #[{ on := 21, ground := Ground.data }, { on := 24, ground := Ground.data }, { on := 20, ground := Ground.chain }, { on := 20, ground := Ground.guard }], guard := some (20, false) }) rfl (fun K hK => ?_) AllReadyH.nil
                  go_simp
                  go_wp2_with (go_at_call 37; (with_reducible refine (gD.out _).mono ?_); rintro _ x4 ⟨rfl, l⟩; have hX4 := X3.out.trans (l.mono X3.out.size); have X4 := Lib.hid hX4; clear l)
                  refine hK.out _ _ (by with_reducible assumption) (fun hHeld => ?_)
                  clear hK K
                  refine wpAnyH_take (i := 27) (oi := { dst := some 169, op := Op.binOp BinOp.neq 43 (Operand.tmp 167) (Operand.tmp 168) 43, type := 4, pos := "law.go:75", after := #[{ on := 25, ground := Ground.data }, { on := 26, ground := Ground.data }, { on := 20, ground := Ground.guard }], guard := some (20, false) }) (v := ?_) rfl (by kernel_rfl) (by kernel_rfl) (by kernel_rfl) (fun _ _ _ h => h) (Or.inl ⟨by kernel_rfl, ?_⟩) (by with_reducible assumption) ?_
                  rotate_left 1
                  · (intro w0 hSw; (try dsimp only at hSw); go_simp; (try with_reducible rfl))
                  simp only [Act.put, List.setIfInBounds_toArray, List.set_cons_zero, List.set_cons_succ]
                  refine wpAnyH_take (i := 28) (oi := { dst := some 170, op := Op.pick (Operand.tmp 162) (Operand.const (Value.bool true)) (Operand.tmp 169), type := 4, pos := "law.go:75", after := #[{ on := 20, ground := Ground.data }, { on := 27, ground := Ground.data }], guard := none }) (v := ?_) rfl (by kernel_rfl) (by kernel_rfl) (by kernel_rfl) (fun _ _ _ h => h) (Or.inl ⟨by kernel_rfl, ?_⟩) (by with_reducible assumption) ?_
                  rotate_left 1
                  · (intro w0 hSw; (try dsimp only at hSw); go_simp; (try with_reducible rfl))
                  simp only [Act.put, List.setIfInBounds_toArray, List.set_cons_zero, List.set_cons_succ]
                  refine wpAnyH_done (by kernel_rfl) ?_ _
                  go_wp2_with fail
                  go_roundw
                  case rel => exact ⟨k + 1, by omega, by go_num, LP.out.trans (X4.out.mono LP.out.size)⟩
                  case measure => simp [intOf]; omega
                · obtain rfl := zN.out (by simp)
                  obtain rfl := zH.out (by simp)
                  obtain ⟨e0, e1, er, el⟩ := PA.out _ Q5.out
                  obtain ⟨c0, c1, c2, c3⟩ := er.cells
                  obtain ⟨t0, t1, t2, t3⟩ := PT.out _ el
                  clear er el
                  go_wp2_with fail
                  clear e0 e1 c0 c1 c2 c3 t0 t1 t2 t3
                  (with_reducible refine (mQ.out _).mono ?_); rintro _ w7 ⟨rfl, l⟩
                  have Q7 := Lib.hid (Q5.out.trans (l.mono Q5.out.size))
                  clear l
                  obtain ⟨e0, e1, er, el⟩ := PA.out _ Q7.out
                  obtain ⟨c0, c1, c2, c3⟩ := er.cells
                  obtain ⟨t0, t1, t2, t3⟩ := PT.out _ el
                  clear er el
                  go_wp2_with fail
                  clear e0 e1 c0 c1 c2 c3 t0 t1 t2 t3
                  have D22 := Lib.hid (show Below Wp.heap.size Wp _ from Q7.out.drew)
                  refine wp_region_held_drew (S := fun W => Below Wp.heap.size Wp W) (by kernel_rfl) (D22.out) (fun hHeld => ?_)
                  refine wpAnyH_take (i := 0) (oi := { dst := some 137, op := Op.load 23 (Operand.tmp 14), type := 23, pos := "law.go:73", after := #[], guard := none }) (v := .agg #[.int .i64 p.x, .int .i64 p.y]) rfl (by kernel_rfl) (by kernel_rfl) (by kernel_rfl) (fun _ _ _ h => h) (yieldsIf_load_mid (by kernel_rfl) 23 (.tmp 14) rfl (wr.heap.size) (0) (by kernel_rfl) [.int .i64 p.x, .int .i64 p.y] _ (fun W hW => (by obtain ⟨e0, e1, _, _⟩ := PA.out _ hW; exact range2 e0 e1)) Try.underlying23 rfl (by kernel_rfl)) (by with_reducible assumption) ?_
                  simp only [Act.put, List.setIfInBounds_toArray, List.set_cons_zero, List.set_cons_succ]
                  refine wpAnyH_take (i := 1) (oi := { dst := some 138, op := Op.move (Operand.tmp 0), type := 26, pos := "law.go:73", after := #[], guard := none }) (v := ?_) rfl (by kernel_rfl) (by kernel_rfl) (by kernel_rfl) (fun _ _ _ h => h) (Or.inl ⟨by kernel_rfl, ?_⟩) (by with_reducible assumption) ?_
                  rotate_left 1
                  · (intro w0 hSw; (try dsimp only at hSw); go_simp; (try with_reducible rfl))
                  simp only [Act.put, List.setIfInBounds_toArray, List.set_cons_zero, List.set_cons_succ]
                  refine wpAnyH_take (i := 2) (oi := { dst := some 139, op := Op.indexAddr 26 (Operand.tmp 138) (Operand.const (Value.int IntKind.i64 0)), type := 0, pos := "law.go:73", after := #[{ on := 1, ground := Ground.data }], guard := none }) (v := ?_) rfl (by kernel_rfl) (by kernel_rfl) (by kernel_rfl) (fun _ _ _ h => h) (Or.inl ⟨by kernel_rfl, ?_⟩) (by with_reducible assumption) ?_
                  rotate_left 1
                  · (intro w0 hSw; (try dsimp only at hSw); go_simp; (try with_reducible rfl))
                  simp only [Act.put, List.setIfInBounds_toArray, List.set_cons_zero, List.set_cons_succ]
                  refine wpAnyH_take (i := 3) (oi := { dst := some 140, op := Op.load 23 (Operand.tmp 139), type := 23, pos := "law.go:73", after := #[{ on := 2, ground := Ground.data }], guard := none }) (v := .agg #[.int .i64 q.x, .int .i64 q.y]) rfl (by kernel_rfl) (by kernel_rfl) (by kernel_rfl) (fun _ _ _ h => h) (yieldsIf_load_mid (by kernel_rfl) 23 (.tmp 139) rfl (bb) (o) (by kernel_rfl) [.int .i64 q.x, .int .i64 q.y] _ (fun W hW => (by obtain ⟨_, _, _, el⟩ := PA.out _ hW; obtain ⟨_, _, t2, t3⟩ := PT.out _ el; exact range2 t2 t3)) Try.underlying23 rfl (by kernel_rfl)) (by with_reducible assumption) ?_
                  simp only [Act.put, List.setIfInBounds_toArray, List.set_cons_zero, List.set_cons_succ]
                  refine wpAnyH_ready (rs := [4]) (by kernel_rfl) (by simp) ?_
                  refine AllReadyH.cons (o := { dst := some 141, op := Op.call { callee := Callee.value (Operand.func 33), args := #[Operand.tmp 137, Operand.tmp 140], argTypes := #[23, 23] }, type := 43, pos := "law.go:73", after := #[{ on := 0, ground := Ground.data }, { on := 3, ground := Ground.data }], guard := none }) rfl (fun K hK => ?_) AllReadyH.nil
                  go_simp
                  go_wp2_with (go_at_call 33; (with_reducible refine (kD.out (by trivial) (by trivial) _).mono ?_); rintro _ w8 ⟨rfl, l⟩; have hS8 := D22.out.trans (l.mono D22.out.size); have Q8 := Lib.hid hS8; clear l)
                  refine hK.out _ _ (by with_reducible assumption) (fun hHeld => ?_)
                  clear hK K
                  refine wpAnyH_ready (rs := [5]) (by kernel_rfl) (by simp) ?_
                  refine AllReadyH.cons (o := { dst := some 17, op := Op.assign (Operand.tmp 141), type := 43, pos := "law.go:73", after := #[{ on := 4, ground := Ground.data }, { on := 4, ground := Ground.chain }, { on := 0, ground := Ground.phase }, { on := 1, ground := Ground.phase }, { on := 2, ground := Ground.phase }, { on := 3, ground := Ground.phase }, { on := 4, ground := Ground.phase }], guard := none }) rfl (fun K hK => ?_) AllReadyH.nil
                  go_simp
                  refine hK.out _ _ (by with_reducible assumption) (fun hHeld => ?_)
                  clear hK K
                  refine wpAnyH_done (by kernel_rfl) ?_ _
                  go_wp2_with fail
                  have D23 := Lib.hid (show Below Wp.heap.size Wp _ from Q8.out.drew)
                  refine wp_region_held_drew (S := fun W => Below Wp.heap.size Wp W) (by kernel_rfl) (D23.out) (fun hHeld => ?_)
                  refine wpAnyH_take (i := 0) (oi := { dst := some 142, op := Op.load 36 (Operand.tmp 4), type := 36, pos := "law.go:75", after := #[], guard := none }) (v := .agg #[.int .i64 r.x0, .int .i64 r.y0, .int .i64 r.x1, .int .i64 r.y1]) rfl (by kernel_rfl) (by kernel_rfl) (by kernel_rfl) (fun _ _ _ h => h) (yieldsIf_load_mid (by kernel_rfl) 36 (.tmp 4) rfl (w.heap.size) (0) (by kernel_rfl) [.int .i64 r.x0, .int .i64 r.y0, .int .i64 r.x1, .int .i64 r.y1] _ (fun W hW => (PA.out _ hW).2.2.1.range) Try.underlying36 rfl (by kernel_rfl)) (by with_reducible assumption) ?_
                  simp only [Act.put, List.setIfInBounds_toArray, List.set_cons_zero, List.set_cons_succ]
                  refine wpAnyH_take (i := 1) (oi := { dst := some 143, op := Op.load 23 (Operand.tmp 14), type := 23, pos := "law.go:75", after := #[], guard := none }) (v := .agg #[.int .i64 p.x, .int .i64 p.y]) rfl (by kernel_rfl) (by kernel_rfl) (by kernel_rfl) (fun _ _ _ h => h) (yieldsIf_load_mid (by kernel_rfl) 23 (.tmp 14) rfl (wr.heap.size) (0) (by kernel_rfl) [.int .i64 p.x, .int .i64 p.y] _ (fun W hW => (by obtain ⟨e0, e1, _, _⟩ := PA.out _ hW; exact range2 e0 e1)) Try.underlying23 rfl (by kernel_rfl)) (by with_reducible assumption) ?_
                  simp only [Act.put, List.setIfInBounds_toArray, List.set_cons_zero, List.set_cons_succ]
                  refine wpAnyH_take (i := 3) (oi := { dst := some 145, op := Op.move (Operand.tmp 15), type := 4, pos := "law.go:75", after := #[], guard := none }) (v := ?_) rfl (by kernel_rfl) (by kernel_rfl) (by kernel_rfl) (fun _ _ _ h => h) (Or.inl ⟨by kernel_rfl, ?_⟩) (by with_reducible assumption) ?_
                  rotate_left 1
                  · (intro w0 hSw; (try dsimp only at hSw); go_simp; (try with_reducible rfl))
                  simp only [Act.put, List.setIfInBounds_toArray, List.set_cons_zero, List.set_cons_succ]
                  refine wpAnyH_ready (rs := [2]) (by kernel_rfl) (by simp) ?_
                  refine AllReadyH.cons (o := { dst := some 144, op := Op.call { callee := Callee.value (Operand.func 34), args := #[Operand.tmp 142, Operand.tmp 143], argTypes := #[36, 23] }, type := 4, pos := "law.go:75", after := #[{ on := 0, ground := Ground.data }, { on := 1, ground := Ground.data }], guard := none }) rfl (fun K hK => ?_) AllReadyH.nil
                  go_simp
                  go_wp2_with (go_at_call 34; (with_reducible refine (gH.out _).mono ?_); rintro _ x1 ⟨rfl, l⟩; have hX1 := D23.out.trans (l.mono D23.out.size); have X1 := Lib.hid hX1; clear l)
                  refine hK.out _ _ (by with_reducible assumption) (fun hHeld => ?_)
                  clear hK K
                  refine wpAnyH_take (i := 4) (oi := { dst := some 146, op := Op.move (Operand.tmp 145), type := 4, pos := "law.go:75", after := #[{ on := 3, ground := Ground.data }, { on := 2, ground := Ground.chain }], guard := none }) (v := ?_) rfl (by kernel_rfl) (by kernel_rfl) (by kernel_rfl) (fun _ _ _ h => h) (Or.inl ⟨by kernel_rfl, ?_⟩) (by with_reducible assumption) ?_
                  rotate_left 1
                  · (intro w0 hSw; (try dsimp only at hSw); go_simp; (try with_reducible rfl))
                  simp only [Act.put, List.setIfInBounds_toArray, List.set_cons_zero, List.set_cons_succ]
                  refine wpAnyH_take (i := 5) (oi := { dst := some 147, op := Op.move (Operand.tmp 10), type := 4, pos := "law.go:75", after := #[{ on := 4, ground := Ground.guard }], guard := some (4, true) }) (v := ?_) rfl (by kernel_rfl) (by kernel_rfl) (by kernel_rfl) (fun _ _ _ h => h) (Or.inl ⟨by kernel_rfl, ?_⟩) (by with_reducible assumption) ?_
                  rotate_left 1
                  · (intro w0 hSw; (try dsimp only at hSw); go_simp; (try with_reducible rfl))
                  simp only [Act.put, List.setIfInBounds_toArray, List.set_cons_zero, List.set_cons_succ]
                  refine wpAnyH_take (i := 6) (oi := { dst := some 148, op := Op.pick (Operand.tmp 146) (Operand.tmp 147) (Operand.const (Value.bool false)), type := 4, pos := "law.go:75", after := #[{ on := 4, ground := Ground.data }, { on := 5, ground := Ground.data }], guard := none }) (v := ?_) rfl (by kernel_rfl) (by kernel_rfl) (by kernel_rfl) (fun _ _ _ h => h) (Or.inl ⟨by kernel_rfl, ?_⟩) (by with_reducible assumption) ?_
                  rotate_left 1
                  · (intro w0 hSw; (try dsimp only at hSw); go_simp; (try with_reducible rfl))
                  simp only [Act.put, List.setIfInBounds_toArray, List.set_cons_zero, List.set_cons_succ]
                  refine wpAnyH_take (i := 7) (oi := { dst := some 149, op := Op.move (Operand.tmp 148), type := 4, pos := "law.go:75", after := #[{ on := 6, ground := Ground.data }, { on := 4, ground := Ground.chain }], guard := none }) (v := ?_) rfl (by kernel_rfl) (by kernel_rfl) (by kernel_rfl) (fun _ _ _ h => h) (Or.inl ⟨by kernel_rfl, ?_⟩) (by with_reducible assumption) ?_
                  rotate_left 1
                  · (intro w0 hSw; (try dsimp only at hSw); go_simp; (try with_reducible rfl))
                  simp only [Act.put, List.setIfInBounds_toArray, List.set_cons_zero, List.set_cons_succ]
                  refine wpAnyH_take (i := 8) (oi := { dst := some 150, op := Op.load 36 (Operand.tmp 4), type := 36, pos := "law.go:75", after := #[{ on := 7, ground := Ground.guard }], guard := some (7, true) }) (v := undef) rfl (by kernel_rfl) (by kernel_rfl) (by kernel_rfl) (fun _ _ _ h => h) (Or.inr ⟨by kernel_rfl, rfl⟩) (by with_reducible assumption) ?_
                  simp only [Act.put, List.setIfInBounds_toArray, List.set_cons_zero, List.set_cons_succ]
                  refine wpAnyH_take (i := 9) (oi := { dst := some 151, op := Op.load 23 (Operand.tmp 14), type := 23, pos := "law.go:75", after := #[{ on := 7, ground := Ground.guard }], guard := some (7, true) }) (v := undef) rfl (by kernel_rfl) (by kernel_rfl) (by kernel_rfl) (fun _ _ _ h => h) (Or.inr ⟨by kernel_rfl, rfl⟩) (by with_reducible assumption) ?_
                  simp only [Act.put, List.setIfInBounds_toArray, List.set_cons_zero, List.set_cons_succ]
                  refine wpAnyH_take (i := 10) (oi := { dst := some 152, op := Op.call { callee := Callee.value (Operand.func 35), args := #[Operand.tmp 150, Operand.tmp 151], argTypes := #[36, 23] }, type := 4, pos := "law.go:75", after := #[{ on := 8, ground := Ground.data }, { on := 9, ground := Ground.data }, { on := 7, ground := Ground.chain }, { on := 7, ground := Ground.guard }], guard := some (7, true) }) (v := undef) rfl (by kernel_rfl) (by kernel_rfl) (by kernel_rfl) (fun _ _ _ h => h) (Or.inr ⟨by kernel_rfl, rfl⟩) (by with_reducible assumption) ?_
                  simp only [Act.put, List.setIfInBounds_toArray, List.set_cons_zero, List.set_cons_succ]
                  refine wpAnyH_take (i := 11) (oi := { dst := some 153, op := Op.pick (Operand.tmp 149) (Operand.tmp 152) (Operand.const (Value.bool false)), type := 4, pos := "law.go:75", after := #[{ on := 7, ground := Ground.data }, { on := 10, ground := Ground.data }], guard := none }) (v := ?_) rfl (by kernel_rfl) (by kernel_rfl) (by kernel_rfl) (fun _ _ _ h => h) (Or.inl ⟨by kernel_rfl, ?_⟩) (by with_reducible assumption) ?_
                  rotate_left 1
                  · (intro w0 hSw; (try dsimp only at hSw); go_simp; (try with_reducible rfl))
                  simp only [Act.put, List.setIfInBounds_toArray, List.set_cons_zero, List.set_cons_succ]
                  refine wpAnyH_take (i := 12) (oi := { dst := some 154, op := Op.binOp BinOp.neq 4 (Operand.tmp 144) (Operand.tmp 153) 4, type := 4, pos := "law.go:75", after := #[{ on := 2, ground := Ground.data }, { on := 11, ground := Ground.data }], guard := none }) (v := ?_) rfl (by kernel_rfl) (by kernel_rfl) (by kernel_rfl) (fun _ _ _ h => h) (Or.inl ⟨by kernel_rfl, ?_⟩) (by with_reducible assumption) ?_
                  rotate_left 1
                  · (intro w0 hSw; (try dsimp only at hSw); go_simp; (try with_reducible rfl))
                  simp only [Act.put, List.setIfInBounds_toArray, List.set_cons_zero, List.set_cons_succ]
                  refine wpAnyH_take (i := 13) (oi := { dst := some 155, op := Op.move (Operand.tmp 154), type := 4, pos := "law.go:75", after := #[{ on := 12, ground := Ground.data }, { on := 10, ground := Ground.chain }], guard := none }) (v := ?_) rfl (by kernel_rfl) (by kernel_rfl) (by kernel_rfl) (fun _ _ _ h => h) (Or.inl ⟨by kernel_rfl, ?_⟩) (by with_reducible assumption) ?_
                  rotate_left 1
                  · (intro w0 hSw; (try dsimp only at hSw); go_simp; (try with_reducible rfl))
                  simp only [Act.put, List.setIfInBounds_toArray, List.set_cons_zero, List.set_cons_succ]
                  refine wpAnyH_take (i := 14) (oi := { dst := some 156, op := Op.load 36 (Operand.tmp 4), type := 36, pos := "law.go:75", after := #[{ on := 13, ground := Ground.guard }], guard := some (13, false) }) (v := .agg #[.int .i64 r.x0, .int .i64 r.y0, .int .i64 r.x1, .int .i64 r.y1]) rfl (by kernel_rfl) (by kernel_rfl) (by kernel_rfl) (fun _ _ _ h => h) (yieldsIf_load_mid (by kernel_rfl) 36 (.tmp 4) rfl (w.heap.size) (0) (by kernel_rfl) [.int .i64 r.x0, .int .i64 r.y0, .int .i64 r.x1, .int .i64 r.y1] _ (fun W hW => (PA.out _ hW).2.2.1.range) Try.underlying36 rfl (by kernel_rfl)) (by with_reducible assumption) ?_
                  simp only [Act.put, List.setIfInBounds_toArray, List.set_cons_zero, List.set_cons_succ]
                  refine wpAnyH_take (i := 15) (oi := { dst := some 157, op := Op.load 23 (Operand.tmp 14), type := 23, pos := "law.go:75", after := #[{ on := 13, ground := Ground.guard }], guard := some (13, false) }) (v := .agg #[.int .i64 p.x, .int .i64 p.y]) rfl (by kernel_rfl) (by kernel_rfl) (by kernel_rfl) (fun _ _ _ h => h) (yieldsIf_load_mid (by kernel_rfl) 23 (.tmp 14) rfl (wr.heap.size) (0) (by kernel_rfl) [.int .i64 p.x, .int .i64 p.y] _ (fun W hW => (by obtain ⟨e0, e1, _, _⟩ := PA.out _ hW; exact range2 e0 e1)) Try.underlying23 rfl (by kernel_rfl)) (by with_reducible assumption) ?_
                  simp only [Act.put, List.setIfInBounds_toArray, List.set_cons_zero, List.set_cons_succ]
                  refine wpAnyH_take (i := 17) (oi := { dst := some 159, op := Op.move (Operand.tmp 16), type := 43, pos := "law.go:75", after := #[{ on := 13, ground := Ground.guard }], guard := some (13, false) }) (v := ?_) rfl (by kernel_rfl) (by kernel_rfl) (by kernel_rfl) (fun _ _ _ h => h) (Or.inl ⟨by kernel_rfl, ?_⟩) (by with_reducible assumption) ?_
                  rotate_left 1
                  · (intro w0 hSw; (try dsimp only at hSw); go_simp; (try with_reducible rfl))
                  simp only [Act.put, List.setIfInBounds_toArray, List.set_cons_zero, List.set_cons_succ]
                  refine wpAnyH_ready (rs := [16]) (by kernel_rfl) (by simp) ?_
                  refine AllReadyH.cons (o := { dst := some 158, op := Op.call { callee := Callee.value (Operand.func 36), args := #[Operand.tmp 156, Operand.tmp 157], argTypes := #[36, 23] }, type := 43, pos := "law.go:75", after := #[{ on := 14, ground := Ground.data }, { on := 15, ground := Ground.data }, { on := 13, ground := Ground.chain }, { on := 13, ground := Ground.guard }], guard := some (13, false) }) rfl (fun K hK => ?_) AllReadyH.nil
                  go_simp
                  go_wp2_with (go_at_call 36; (with_reducible refine (gN.out _).mono ?_); rintro _ x3 ⟨rfl, l⟩; have hX3 := X1.out.trans (l.mono X1.out.size); have X3 := Lib.hid hX3; clear l)
                  refine hK.out _ _ (by with_reducible assumption) (fun hHeld => ?_)
                  clear hK K
                  refine wpAnyH_take (i := 18) (oi := { dst := some 160, op := Op.binOp BinOp.neq 43 (Operand.tmp 158) (Operand.tmp 159) 43, type := 4, pos := "law.go:75", after := #[{ on := 16, ground := Ground.data }, { on := 17, ground := Ground.data }, { on := 13, ground := Ground.guard }], guard := some (13, false) }) (v := ?_) rfl (by kernel_rfl) (by kernel_rfl) (by kernel_rfl) (fun _ _ _ h => h) (Or.inl ⟨by kernel_rfl, ?_⟩) (by with_reducible assumption) ?_
                  rotate_left 1
                  · (intro w0 hSw; (try dsimp only at hSw); go_simp; (try with_reducible rfl))
                  simp only [Act.put, List.setIfInBounds_toArray, List.set_cons_zero, List.set_cons_succ]
                  refine wpAnyH_take (i := 19) (oi := { dst := some 161, op := Op.pick (Operand.tmp 155) (Operand.const (Value.bool true)) (Operand.tmp 160), type := 4, pos := "law.go:75", after := #[{ on := 13, ground := Ground.data }, { on := 18, ground := Ground.data }], guard := none }) (v := ?_) rfl (by kernel_rfl) (by kernel_rfl) (by kernel_rfl) (fun _ _ _ h => h) (Or.inl ⟨by kernel_rfl, ?_⟩) (by with_reducible assumption) ?_
                  rotate_left 1
                  · (intro w0 hSw; (try dsimp only at hSw); go_simp; (try with_reducible rfl))
                  simp only [Act.put, List.setIfInBounds_toArray, List.set_cons_zero, List.set_cons_succ]
                  refine wpAnyH_take (i := 20) (oi := { dst := some 162, op := Op.move (Operand.tmp 161), type := 4, pos := "law.go:75", after := #[{ on := 19, ground := Ground.data }, { on := 16, ground := Ground.chain }], guard := none }) (v := ?_) rfl (by kernel_rfl) (by kernel_rfl) (by kernel_rfl) (fun _ _ _ h => h) (Or.inl ⟨by kernel_rfl, ?_⟩) (by with_reducible assumption) ?_
                  rotate_left 1
                  · (intro w0 hSw; (try dsimp only at hSw); go_simp; (try with_reducible rfl))
                  simp only [Act.put, List.setIfInBounds_toArray, List.set_cons_zero, List.set_cons_succ]
                  refine wpAnyH_take (i := 21) (oi := { dst := some 163, op := Op.load 23 (Operand.tmp 14), type := 23, pos := "law.go:75", after := #[{ on := 20, ground := Ground.guard }], guard := some (20, false) }) (v := .agg #[.int .i64 p.x, .int .i64 p.y]) rfl (by kernel_rfl) (by kernel_rfl) (by kernel_rfl) (fun _ _ _ h => h) (yieldsIf_load_mid (by kernel_rfl) 23 (.tmp 14) rfl (wr.heap.size) (0) (by kernel_rfl) [.int .i64 p.x, .int .i64 p.y] _ (fun W hW => (by obtain ⟨e0, e1, _, _⟩ := PA.out _ hW; exact range2 e0 e1)) Try.underlying23 rfl (by kernel_rfl)) (by with_reducible assumption) ?_
                  simp only [Act.put, List.setIfInBounds_toArray, List.set_cons_zero, List.set_cons_succ]
                  refine wpAnyH_take (i := 22) (oi := { dst := some 164, op := Op.move (Operand.tmp 0), type := 26, pos := "law.go:75", after := #[{ on := 20, ground := Ground.guard }], guard := some (20, false) }) (v := ?_) rfl (by kernel_rfl) (by kernel_rfl) (by kernel_rfl) (fun _ _ _ h => h) (Or.inl ⟨by kernel_rfl, ?_⟩) (by with_reducible assumption) ?_
                  rotate_left 1
                  · (intro w0 hSw; (try dsimp only at hSw); go_simp; (try with_reducible rfl))
                  simp only [Act.put, List.setIfInBounds_toArray, List.set_cons_zero, List.set_cons_succ]
                  refine wpAnyH_take (i := 26) (oi := { dst := some 168, op := Op.move (Operand.tmp 17), type := 43, pos := "law.go:75", after := #[{ on := 20, ground := Ground.guard }], guard := some (20, false) }) (v := ?_) rfl (by kernel_rfl) (by kernel_rfl) (by kernel_rfl) (fun _ _ _ h => h) (Or.inl ⟨by kernel_rfl, ?_⟩) (by with_reducible assumption) ?_
                  rotate_left 1
                  · (intro w0 hSw; (try dsimp only at hSw); go_simp; (try with_reducible rfl))
                  simp only [Act.put, List.setIfInBounds_toArray, List.set_cons_zero, List.set_cons_succ]
                  refine wpAnyH_take (i := 23) (oi := { dst := some 165, op := Op.indexAddr 26 (Operand.tmp 164) (Operand.const (Value.int IntKind.i64 0)), type := 0, pos := "law.go:75", after := #[{ on := 22, ground := Ground.data }, { on := 20, ground := Ground.guard }], guard := some (20, false) }) (v := ?_) rfl (by kernel_rfl) (by kernel_rfl) (by kernel_rfl) (fun _ _ _ h => h) (Or.inl ⟨by kernel_rfl, ?_⟩) (by with_reducible assumption) ?_
                  rotate_left 1
                  · (intro w0 hSw; (try dsimp only at hSw); go_simp; (try with_reducible rfl))
                  simp only [Act.put, List.setIfInBounds_toArray, List.set_cons_zero, List.set_cons_succ]
                  refine wpAnyH_take (i := 24) (oi := { dst := some 166, op := Op.load 23 (Operand.tmp 165), type := 23, pos := "law.go:75", after := #[{ on := 23, ground := Ground.data }, { on := 20, ground := Ground.guard }], guard := some (20, false) }) (v := .agg #[.int .i64 q.x, .int .i64 q.y]) rfl (by kernel_rfl) (by kernel_rfl) (by kernel_rfl) (fun _ _ _ h => h) (yieldsIf_load_mid (by kernel_rfl) 23 (.tmp 165) rfl (bb) (o) (by kernel_rfl) [.int .i64 q.x, .int .i64 q.y] _ (fun W hW => (by obtain ⟨_, _, _, el⟩ := PA.out _ hW; obtain ⟨_, _, t2, t3⟩ := PT.out _ el; exact range2 t2 t3)) Try.underlying23 rfl (by kernel_rfl)) (by with_reducible assumption) ?_
                  simp only [Act.put, List.setIfInBounds_toArray, List.set_cons_zero, List.set_cons_succ]
                  refine wpAnyH_ready (rs := [25]) (by kernel_rfl) (by simp) ?_
                  refine AllReadyH.cons (o := { dst := some 167, op := Op.call { callee := Callee.value (Operand.func 37), args := #[Operand.tmp 163, Operand.tmp 166], argTypes := #[23, 23] }, type := 43, pos := "law.go:75", after := #[{ on := 21, ground := Ground.data }, { on := 24, ground := Ground.data }, { on := 20, ground := Ground.chain }, { on := 20, ground := Ground.guard }], guard := some (20, false) }) rfl (fun K hK => ?_) AllReadyH.nil
                  go_simp
                  go_wp2_with (go_at_call 37; (with_reducible refine (gD.out _).mono ?_); rintro _ x4 ⟨rfl, l⟩; have hX4 := X3.out.trans (l.mono X3.out.size); have X4 := Lib.hid hX4; clear l)
                  refine hK.out _ _ (by with_reducible assumption) (fun hHeld => ?_)
                  clear hK K
                  refine wpAnyH_take (i := 27) (oi := { dst := some 169, op := Op.binOp BinOp.neq 43 (Operand.tmp 167) (Operand.tmp 168) 43, type := 4, pos := "law.go:75", after := #[{ on := 25, ground := Ground.data }, { on := 26, ground := Ground.data }, { on := 20, ground := Ground.guard }], guard := some (20, false) }) (v := ?_) rfl (by kernel_rfl) (by kernel_rfl) (by kernel_rfl) (fun _ _ _ h => h) (Or.inl ⟨by kernel_rfl, ?_⟩) (by with_reducible assumption) ?_
                  rotate_left 1
                  · (intro w0 hSw; (try dsimp only at hSw); go_simp; (try with_reducible rfl))
                  simp only [Act.put, List.setIfInBounds_toArray, List.set_cons_zero, List.set_cons_succ]
                  refine wpAnyH_take (i := 28) (oi := { dst := some 170, op := Op.pick (Operand.tmp 162) (Operand.const (Value.bool true)) (Operand.tmp 169), type := 4, pos := "law.go:75", after := #[{ on := 20, ground := Ground.data }, { on := 27, ground := Ground.data }], guard := none }) (v := ?_) rfl (by kernel_rfl) (by kernel_rfl) (by kernel_rfl) (fun _ _ _ h => h) (Or.inl ⟨by kernel_rfl, ?_⟩) (by with_reducible assumption) ?_
                  rotate_left 1
                  · (intro w0 hSw; (try dsimp only at hSw); go_simp; (try with_reducible rfl))
                  simp only [Act.put, List.setIfInBounds_toArray, List.set_cons_zero, List.set_cons_succ]
                  refine wpAnyH_done (by kernel_rfl) ?_ _
                  go_wp2_with fail
                  go_roundw
                  case rel => exact ⟨k + 1, by omega, by go_num, LP.out.trans (X4.out.mono LP.out.size)⟩
                  case measure => simp [intOf]; omega
              · have hk2 : k = n := by omega
                clear hk2
                go_wp2_with fail
                (with_reducible refine (KA.out _).mono ?_); rintro _ w9 ⟨rfl, l9⟩
                have LZ := Lib.hid (PW.out.trans ((HB.out.trans (l9.mono HB.out.size)).mono PW.out.size))
                clear l9
                go_wp2_with fail
                go_ret
                exact ⟨rfl, LZ.out⟩
end Go.Proofs.Ytehmdokcdnlcdaa
