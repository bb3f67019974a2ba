/- GeomShifts: the walk where the ring is gone through. -/
import Derived.Test.YtlkdjpidofnhdaaGShifts
import Derived.Deep.RegionHeld3
namespace Go.Proofs.Ytlkdjpidofnhdaa
open Go.RowKit
set_option linter.unusedVariables false

/-- What the loop keeps: the ring and the two boxes are as they were. -/
def Sb2 (w : World) (b o n : Nat) (F : Nat → Pt) (p v : Pt) (W : World) : Prop :=
  Below w.heap.size w W ∧ w.heap.size + 2 ≤ W.heap.size ∧ (W.cell? ⟨w.heap.size, 0, none⟩ = some (.int .i64 p.x) ∧ W.cell? ⟨w.heap.size, 1, none⟩ = some (.int .i64 p.y)) ∧ (W.cell? ⟨w.heap.size + 1, 0, none⟩ = some (.int .i64 v.x) ∧ W.cell? ⟨w.heap.size + 1, 1, none⟩ = some (.int .i64 v.y)) ∧ (∀ i, i < n → W.cell? ⟨b, o + i * 2, none⟩ = some (.int .i64 (F i).x) ∧ W.cell? ⟨b, o + i * 2 + 1, none⟩ = some (.int .i64 (F i).y))
theorem Sb2.keep {w W W' : World} {b o n : Nat} {F : Nat → Pt} {p v : Pt} (h : Sb2 w b o n F p v W) (hb : b < w.heap.size) (l : Below (w.heap.size + 2) W W') : Sb2 w b o n F p v W' := by
  obtain ⟨h1, h2, h3, h4, h5⟩ := h
  exact ⟨h1.trans (l.mono (by omega)), Nat.le_trans h2 l.size, ⟨kp' l (by omega) h3.1, kp' l (by omega) h3.2⟩, ⟨kp' l (by omega) h4.1, kp' l (by omega) h4.2⟩, fun i hi => ⟨kp' l (by omega) (h5 i hi).1, kp' l (by omega) (h5 i hi).2⟩⟩
theorem Sb2.call {w W W' : World} {b o n : Nat} {F : Nat → Pt} {p v : Pt} (h : Sb2 w b o n F p v W) (hb : b < w.heap.size) (l : Below W.heap.size W W') : Sb2 w b o n F p v W' := h.keep hb (l.mono h.2.1)
theorem sk_keep {w3 W W' : World} {b o1 g : Nat} {f v : Pt} (l : Below W.heap.size W W') (h : Below w3.heap.size w3 W ∧ W.cell? ⟨b, o1, none⟩ = some (.int .i64 f.x) ∧ W.cell? ⟨b, o1 + 1, none⟩ = some (.int .i64 f.y) ∧ W.cell? ⟨g, 0, none⟩ = some (.int .i64 v.x) ∧ W.cell? ⟨g, 1, none⟩ = some (.int .i64 v.y)) : Below w3.heap.size w3 W' ∧ W'.cell? ⟨b, o1, none⟩ = some (.int .i64 f.x) ∧ W'.cell? ⟨b, o1 + 1, none⟩ = some (.int .i64 f.y) ∧ W'.cell? ⟨g, 0, none⟩ = some (.int .i64 v.x) ∧ W'.cell? ⟨g, 1, none⟩ = some (.int .i64 v.y) :=
  ⟨below2' h.1 l, kp' l (cell_lt' h.2.1) h.2.1, kp' l (cell_lt' h.2.2.1) h.2.2.1, kp' l (cell_lt' h.2.2.2.1) h.2.2.2.1, kp' l (cell_lt' h.2.2.2.2) h.2.2.2.2⟩
theorem sk_alloc {w3 W : World} {b o1 g : Nat} {f v : Pt} (ob : Obj) (h : Below w3.heap.size w3 W ∧ W.cell? ⟨b, o1, none⟩ = some (.int .i64 f.x) ∧ W.cell? ⟨b, o1 + 1, none⟩ = some (.int .i64 f.y) ∧ W.cell? ⟨g, 0, none⟩ = some (.int .i64 v.x) ∧ W.cell? ⟨g, 1, none⟩ = some (.int .i64 v.y)) : Below w3.heap.size w3 (W.alloc ob) ∧ (W.alloc ob).cell? ⟨b, o1, none⟩ = some (.int .i64 f.x) ∧ (W.alloc ob).cell? ⟨b, o1 + 1, none⟩ = some (.int .i64 f.y) ∧ (W.alloc ob).cell? ⟨g, 0, none⟩ = some (.int .i64 v.x) ∧ (W.alloc ob).cell? ⟨g, 1, none⟩ = some (.int .i64 v.y) := sk_keep ((Below.refl _ _).alloc (Nat.le_refl _) _) h
theorem sk_drew {w3 W : World} {b o1 g : Nat} {f v : Pt} (h : Below w3.heap.size w3 W ∧ W.cell? ⟨b, o1, none⟩ = some (.int .i64 f.x) ∧ W.cell? ⟨b, o1 + 1, none⟩ = some (.int .i64 f.y) ∧ W.cell? ⟨g, 0, none⟩ = some (.int .i64 v.x) ∧ W.cell? ⟨g, 1, none⟩ = some (.int .i64 v.y)) : Below w3.heap.size w3 W.drew ∧ W.drew.cell? ⟨b, o1, none⟩ = some (.int .i64 f.x) ∧ W.drew.cell? ⟨b, o1 + 1, none⟩ = some (.int .i64 f.y) ∧ W.drew.cell? ⟨g, 0, none⟩ = some (.int .i64 v.x) ∧ W.drew.cell? ⟨g, 1, none⟩ = some (.int .i64 v.y) := sk_keep (Below.refl _ _).drew h
theorem put2_far {W : World} {z b2 o : Nat} {q : Pt} (hb : b2 ≠ z) {v : Value} (h : W.cell? ⟨b2, o, none⟩ = some v) : ((W.setCell ⟨z, 0, none⟩ (.int .i64 q.x)).setCell ⟨z, 1, none⟩ (.int .i64 q.y)).cell? ⟨b2, o, none⟩ = some v := by
  have k : ∀ (V : World) (i : Nat) (u : Value), (V.setCell ⟨z, i, none⟩ u).cell? ⟨b2, o, none⟩ = V.cell? ⟨b2, o, none⟩ := fun V i u => World.cell?_setCell_far V _ _ u (Ne.symm hb)
  rw [k, k, h]
theorem sk_put {w3 W : World} {b o1 g z : Nat} {f v q : Pt} (h : Below w3.heap.size w3 W ∧ W.cell? ⟨b, o1, none⟩ = some (.int .i64 f.x) ∧ W.cell? ⟨b, o1 + 1, none⟩ = some (.int .i64 f.y) ∧ W.cell? ⟨g, 0, none⟩ = some (.int .i64 v.x) ∧ W.cell? ⟨g, 1, none⟩ = some (.int .i64 v.y)) (h1 : b < z) (h2 : g < z) (h3 : w3.heap.size ≤ z) : Below w3.heap.size w3 ((W.setCell ⟨z, 0, none⟩ (.int .i64 q.x)).setCell ⟨z, 1, none⟩ (.int .i64 q.y)) ∧ ((W.setCell ⟨z, 0, none⟩ (.int .i64 q.x)).setCell ⟨z, 1, none⟩ (.int .i64 q.y)).cell? ⟨b, o1, none⟩ = some (.int .i64 f.x) ∧ ((W.setCell ⟨z, 0, none⟩ (.int .i64 q.x)).setCell ⟨z, 1, none⟩ (.int .i64 q.y)).cell? ⟨b, o1 + 1, none⟩ = some (.int .i64 f.y) ∧ ((W.setCell ⟨z, 0, none⟩ (.int .i64 q.x)).setCell ⟨z, 1, none⟩ (.int .i64 q.y)).cell? ⟨g, 0, none⟩ = some (.int .i64 v.x) ∧ ((W.setCell ⟨z, 0, none⟩ (.int .i64 q.x)).setCell ⟨z, 1, none⟩ (.int .i64 q.y)).cell? ⟨g, 1, none⟩ = some (.int .i64 v.y) :=
  ⟨(h.1.setCell (p := ⟨z, 0, none⟩) h3 _).setCell (p := ⟨z, 1, none⟩) h3 _, put2_far (by omega) h.2.1, put2_far (by omega) h.2.2.1, put2_far (by omega) h.2.2.2.1, put2_far (by omega) h.2.2.2.2⟩
def Z2 (W : World) (b : Nat) : Prop := b < W.heap.size ∧ (b ≠ W.heap.size ∧ W.heap.size ≠ b) ∧ (W.cell? ⟨b, 0, none⟩ = some (.int .i64 0) ∧ W.cell? ⟨b, 1, none⟩ = some (.int .i64 0)) ∧ W.frozen? ⟨b, 0, none⟩ = false ∧ W.frozen? ⟨b, 1, none⟩ = false
theorem z2_new {W w' : World} (l : Below (W.alloc (.cells #[.int .i64 0, .int .i64 0] 23)).heap.size (W.alloc (.cells #[.int .i64 0, .int .i64 0] 23)) w') : Z2 w' W.heap.size := by
  have hl : W.heap.size < w'.heap.size := by have := l.size; simp at this; omega
  have kc : ∀ i v, (W.alloc (.cells #[.int .i64 0, .int .i64 0] 23)).cell? ⟨W.heap.size, i, none⟩ = some v → w'.cell? ⟨W.heap.size, i, none⟩ = some v := fun i v h => kp' l (by simp) h
  have kf : ∀ i, w'.frozen? ⟨W.heap.size, i, none⟩ = false := fun i => (l.frozen (p := ⟨W.heap.size, i, none⟩) (by simp)).trans (by go_simp)
  exact ⟨hl, ⟨by omega, by omega⟩, ⟨kc 0 _ (by go_simp), kc 1 _ (by go_simp)⟩, kf 0, kf 1⟩
set_option maxRecDepth 100000 in
set_option maxHeartbeats 8000000 in
theorem shifts_main (b o n c : Nat) (F : Nat → Pt) (p v : Pt) (w : World) (hP : Pts w (some ⟨b, o, none⟩) n F) (h : n ≤ 60) (h0 : 0 < n) (hv : mayB v = true) (hp : mayB p = true) : Calls Try.prog 8 #[.slice (some ⟨b, o, none⟩) n c, .agg #[.int .i64 p.x, .int .i64 p.y], .agg #[.int .i64 v.x, .int .i64 v.y]] w fun e w' => e = .returned (.bool true) ∧ Below w.heap.size w w' := by
  have hL := below2box w p v
  have hPb := hP.keep hL
  obtain ⟨b', o', e, hcl⟩ := hPb.2 h0
  obtain ⟨rfl, rfl⟩ : b = b' ∧ o = o' := by injection e with e; injection e with e1 e2; exact ⟨e1, e2⟩
  have hb : b < w.heap.size := by
    obtain ⟨b', o', e', hcl'⟩ := hP.2 h0
    obtain ⟨rfl, rfl⟩ : b = b' ∧ o = o' := by injection e' with e; injection e with e1 e2; exact ⟨e1, e2⟩
    exact cell_lt' (hcl' 0 h0).1
  obtain ⟨b0, b1, b2, b3⟩ := box2_cells w p v
  have hS : Sb2 w b o n F p v ((w.alloc (.cells #[.int .i64 p.x, .int .i64 p.y] 23)).alloc (.cells #[.int .i64 v.x, .int .i64 v.y] 23)) := ⟨hL, by simp, ⟨b0, b1⟩, ⟨b2, b3⟩, hcl⟩
  have HS0 := Lib.hid hS
  have K := Lib.hid gAwake_any
  have k1 := fun W => may_any v W
  have k2 := fun W => may_any p W
  have HVB : MayP v := of_decide_eq_true hv
  have HPB : MayP p := of_decide_eq_true hp
  rw [hv] at k1
  rw [hp] at k2
  have K1 := Lib.hid k1
  have K2 := Lib.hid k2
  have KM := Lib.hid may_any
  have KAt := Lib.hid at_any
  have HV := Lib.hid HVB
  have HPp := Lib.hid HPB
  clear k1 hv k2 hp hL hPb hcl e hS HVB HPB hP
  have hn0 : ((n : Int) == 0) = false := by simp; omega
  have hn6 : ¬ (60 : Int) < n := by omega
  go_enter Try.func8, Try.ntmps8
  go_wp2_with fail
  (with_reducible refine (K1.out _).mono ?_); rintro _ w1 ⟨rfl, l1⟩
  have S1 := Lib.hid (HS0.out.call hb l1)
  have c0 := kp' l1 (cell_lt' b0) b0
  have c1 := kp' l1 (cell_lt' b1) b1
  clear l1 b0 b1 b2 b3
  go_wp2_with fail
  (with_reducible refine (K2.out _).mono ?_); rintro _ w2 ⟨rfl, l2⟩
  have S2 := Lib.hid (S1.out.call hb l2)
  clear l2 c0 c1
  go_wp2
  go_loopw [7, 8, 9, 10, 11, 12] (fun a8 a9 a10 m i u wr => (∃ (A1 A2 A3 : Option Addr) (c1 c2 c3 k : Nat), k ≤ n ∧ i = .int .i64 k ∧ a8 = .slice A1 k c1 ∧ a9 = .slice A2 k c2 ∧ a10 = .slice A3 k c3 ∧ m = .bool (allB (fun j => movP v (F j)) k) ∧ MayN F k ∧ OwnP wr (w.heap.size + 2) A1 k c1 (fun j => movP v (F j)) ∧ OwnP wr (w.heap.size + 2) A2 k c2 (fun j => F ((j + 1) % n)) ∧ OwnP wr (w.heap.size + 2) A3 k c3 (fun j => F (n - 1 - j)) ∧ Ap A1 A2 ∧ Ap A1 A3 ∧ Ap A2 A3) ∧ Sb2 w b o n F p v wr) (fun _ _ _ _ i _ _ => n - (intOf i).toNat)
  case atStart => exact ⟨⟨none, none, none, 0, 0, 0, 0, by omega, rfl, rfl, rfl, rfl, rfl, fun i hi => absurd hi (by omega), OwnC.none_ _ _ _ _, OwnC.none_ _ _ _ _, OwnC.none_ _ _ _ _, Ap.none_ _, Ap.none_ _, Ap.none_ _⟩, S2.out⟩
  case round =>
    obtain ⟨⟨A1, A2, A3, q1, q2, q3, k, hk, rfl, rfl, rfl, rfl, rfl, hM, o1, o2, o3, p12, p13, p23⟩, hS⟩ := hrel
    have O1 := Lib.hid o1
    have O2 := Lib.hid o2
    have O3 := Lib.hid o3
    have HM := Lib.hid hM
    have P12 := Lib.hid p12
    have P13 := Lib.hid p13
    have P23 := Lib.hid p23
    have S3 := Lib.hid hS
    clear o1 o2 o3 hM p12 p13 p23 hS
    by_cases hlt : k < n
    · obtain ⟨_, _, ⟨x0, x1⟩, ⟨y0, y1⟩, hcl⟩ := S3.out
      obtain ⟨z0, z1⟩ := hcl k hlt
      obtain ⟨f, hf⟩ : ∃ f, f = F k := ⟨_, rfl⟩
      rw [← hf] at z0 z1
      have HF := Lib.hid hf
      clear hf hcl
      cases hm : mayB f
      · have k3 := fun W => KM.out f W
        rw [hm] at k3
        have K3 := Lib.hid k3
        have HI := Lib.hid (in_no (F := F) (n := n) (p := p) (by unfold InOk; rw [allB_no hlt (by rw [← HF.out]; exact hm)]; simp))
        clear k3 hm
        go_wp2_with fail
        (with_reducible refine (K3.out _).mono ?_); rintro _ w3 ⟨rfl, l3⟩
        have S4 := Lib.hid (S3.out.call hb l3)
        clear l3 z0 z1 x0 x1 y0 y1
        obtain ⟨_, _, ⟨x0, x1⟩, _, hcl⟩ := S4.out
        have ki := inside_any (some ⟨b, o, none⟩) n c F p w3 ⟨by omega, fun _ => ⟨b, o, rfl, hcl⟩⟩ (by omega)
        rw [HI.out] at ki
        have KI := Lib.hid ki
        clear ki hcl
        go_wp2_with fail
        (with_reducible refine (KI.out).mono ?_); rintro _ w4 ⟨rfl, l4⟩
        have L4 := Lib.hid (S4.out.1.trans (l4.mono S4.out.1.size))
        clear l4
        go_wp2_with fail
        (with_reducible refine (K.out _).mono ?_); rintro _ w5 ⟨rfl, l5⟩
        have L5 := Lib.hid (below2' L4.out l5)
        clear l5
        go_wp2
        go_ret
        exact ⟨rfl, L5.out⟩
      · have HFM := Lib.hid hm
        obtain ⟨mk, hmk⟩ : ∃ m, m = allB (fun j => movP v (F j)) k := ⟨_, rfl⟩
        rw [← hmk]
        have HMK := Lib.hid hmk
        clear hmk
        have k3 := fun W => KM.out f W
        rw [hm] at k3
        have K3 := Lib.hid k3
        clear k3
        go_wp2_with fail
        (with_reducible refine (K3.out _).mono ?_); rintro _ w3 ⟨rfl, l3⟩
        have S4 := Lib.hid (S3.out.call hb l3)
        have O1' := Lib.hid (O1.out.below l3)
        have O2' := Lib.hid (O2.out.below l3)
        have O3' := Lib.hid (O3.out.below l3)
        have e0 := kp' l3 (cell_lt' z0) z0
        have e1 := kp' l3 (cell_lt' z1) z1
        have g0 := kp' l3 (cell_lt' y0) y0
        have g1 := kp' l3 (cell_lt' y1) y1
        clear l3 z0 z1 y0 y1 x0 x1 O1 O2 O3 S3
        have hfb : MayP f := of_decide_eq_true hm
        have hvb := HV.out
        unfold MayP at hfb hvb
        obtain ⟨q, hq⟩ : ∃ q, q = movP v f := ⟨_, rfl⟩
        have HQ := Lib.hid hq
        have hw0 : IntKind.i64.wrap (f.x + v.x) = q.x := by rw [IntKind.wrap_i64, hq]; show _ = f.x + v.x; omega
        have hw1 : IntKind.i64.wrap (f.y + v.y) = q.y := by rw [IntKind.wrap_i64, hq]; show _ = f.y + v.y; omega
        have hbz : b < w3.heap.size := cell_lt' e0
        have KA := Lib.hid fun W => KAt.out q.x q.y W
        have hz3 : w.heap.size + 1 < w3.heap.size := cell_lt' g0
        have HSa := Lib.hid (show Below w3.heap.size w3 w3 ∧ w3.cell? ⟨b, o + k * 2, none⟩ = some (.int .i64 f.x) ∧ w3.cell? ⟨b, o + k * 2 + 1, none⟩ = some (.int .i64 f.y) ∧ w3.cell? ⟨w.heap.size + 1, 0, none⟩ = some (.int .i64 v.x) ∧ w3.cell? ⟨w.heap.size + 1, 1, none⟩ = some (.int .i64 v.y) from ⟨Below.refl _ _, e0, e1, g0, g1⟩)
        clear hq hfb hvb
        go_wp2_with fail
        go_region_held3 (fun W => Below w3.heap.size w3 W ∧ W.cell? ⟨b, o + k * 2, none⟩ = some (.int .i64 f.x) ∧ W.cell? ⟨b, o + k * 2 + 1, none⟩ = some (.int .i64 f.y) ∧ W.cell? ⟨w.heap.size + 1, 0, none⟩ = some (.int .i64 v.x) ∧ W.cell? ⟨w.heap.size + 1, 1, none⟩ = some (.int .i64 v.y)) (repeat (first | with_reducible assumption | with_reducible exact HSa.out | with_reducible refine sk_alloc _ ?_ | with_reducible refine sk_drew ?_ | with_reducible refine sk_put ?_ (by with_reducible assumption) (by with_reducible assumption) (Nat.le_refl _))) (first
          | (go_at_call 38; (with_reducible refine (KA.out _).mono ?_); rintro e w' ⟨rfl, l0⟩; (first | (with_reducible have l1 := z4_drew l0) | (have l1 := l0)); (try (with_reducible have Z1 := z2_new l1)); (try (obtain ⟨_, ⟨_, _⟩, ⟨_, _⟩, _, _⟩ := (id Z1))); (have q9 := l1.size); (try simp only [World.size_alloc] at q9); have hS := sk_keep (w3 := w3) (b := b) (o1 := o + k * 2) (g := w.heap.size + 1) (f := f) (v := v) l1 (by repeat (first | with_reducible assumption | with_reducible exact HSa.out | with_reducible refine sk_alloc _ ?_ | with_reducible refine sk_drew ?_ | with_reducible refine sk_put ?_ (by with_reducible assumption) (by with_reducible assumption) (Nat.le_refl _))); clear l1 l0))
        all_goals clear e0 e1 g0 g1 hw0 hw1
        · have LQ := Lib.hid (hS.1.alloc hS.1.size (.cells #[.int .i64 q.x, .int .i64 q.y] 23))
          have t0 : (w'.alloc (.cells #[.int .i64 q.x, .int .i64 q.y] 23)).cell? ⟨w'.heap.size, 0, none⟩ = some (.int .i64 q.x) := by go_simp
          have t1 : (w'.alloc (.cells #[.int .i64 q.x, .int .i64 q.y] 23)).cell? ⟨w'.heap.size, 1, none⟩ = some (.int .i64 q.y) := by go_simp
          generalize w'.alloc (.cells #[.int .i64 q.x, .int .i64 q.y] 23) = W5 at LQ t0 t1 ⊢
          generalize w'.heap.size = gq at t0 t1 ⊢
          have S5 := Lib.hid (S4.out.call hb LQ.out)
          have P1 := Lib.hid (O1'.out.below LQ.out)
          have P2 := Lib.hid (O2'.out.below LQ.out)
          have P3 := Lib.hid (O3'.out.below LQ.out)
          clear hS HSa S4 O1' O2' O3' LQ
          have KQ := Lib.hid fun W => KM.out q W
          obtain ⟨mq, hmq⟩ : ∃ m, m = mayB q := ⟨_, rfl⟩
          have HMQ := Lib.hid hmq
          rw [← hmq] at KQ
          clear hmq
          cases mk
          · have hz6 := S5.out.2.1
            go_wp2_with (at_builtin; with_reducible refine wpList_push_two W5 rfl _ _ 26 23 (.agg #[.int .i64 0, .int .i64 0]) rfl rfl Try.underlying26 ptInfo (w.heap.size + 2) A1 k q1 _ rfl P1.out (.int .i64 q.x) (.int .i64 q.y) rfl rfl rfl ?d1 ?d2 ?d3)
            case d1 => omega
            case d2 => exact hz6
            case d3 =>
              intro A1' c1' w7 r1 l7 st7
              have S7 := Lib.hid (S5.out.keep hb l7)
              have T1 := Lib.hid (r1.congr fun j hj => push_co (fun j => movP v (F j)) k q (by rw [HQ.out, HF.out]) j hj)
              obtain ⟨r2, p2⟩ := st7 A2 k q2 _ P2.out P12.out.symm
              obtain ⟨r3, p3⟩ := st7 A3 k q3 _ P3.out P13.out.symm
              have T2 := Lib.hid r2
              have T3 := Lib.hid r3
              have PA := Lib.hid p2
              have PB := Lib.hid p3
              clear r1 l7 st7 r2 r3 p2 p3 S5 P1 P2 P3 t0 t1 hz6
              obtain ⟨m, hm2⟩ : ∃ m, m = (k + 1) % n := ⟨_, rfl⟩
              have hml : m < n := by rw [hm2]; exact Nat.mod_lt _ (by omega)
              have hmod := tmod_nat (n := n) hm2
              have hmod2 : ((k : Int) + 1) % (n : Int) = (m : Int) := by rw [hm2]; first | (rw [Int.natCast_emod]; rfl) | simp
              obtain ⟨f2, hf2⟩ : ∃ f2, f2 = F m := ⟨_, rfl⟩
              obtain ⟨_, hz7, _, _, hcl⟩ := S7.out
              obtain ⟨z0, z1⟩ := hcl m hml
              rw [← hf2] at z0 z1
              have HM2 := Lib.hid (And.intro hm2 hf2)
              clear hcl hm2 hf2
              go_wp2_with (at_builtin; with_reducible refine wpList_push_two w7 rfl _ _ 26 23 (.agg #[.int .i64 0, .int .i64 0]) rfl rfl Try.underlying26 ptInfo (w.heap.size + 2) A2 k q2 _ rfl T2.out (.int .i64 f2.x) (.int .i64 f2.y) rfl rfl rfl ?d1 ?d2 ?d3)
              case d1 => omega
              case d2 => exact hz7
              case d3 =>
                intro A2' c2' w8 r2 l8 st8
                have S8 := Lib.hid (S7.out.keep hb l8)
                have V2 := Lib.hid (r2.congr fun j hj => push_co (fun j => F ((j + 1) % n)) k f2 (by rw [HM2.out.2, HM2.out.1]) j hj)
                obtain ⟨r1, p1⟩ := st8 A1' (k + 1) c1' _ T1.out PA.out.symm
                obtain ⟨r3, p3⟩ := st8 A3 k q3 _ T3.out P23.out.symm
                have V1 := Lib.hid r1
                have V3 := Lib.hid r3
                have PC := Lib.hid p1
                have PD := Lib.hid p3
                clear r1 l8 st8 r2 r3 p1 p3 S7 T1 T2 T3 hz7 z0 z1 hmod hmod2
                obtain ⟨f3, hf3⟩ : ∃ f3, f3 = F (n - 1 - k) := ⟨_, rfl⟩
                obtain ⟨_, hz8, _, _, hcl⟩ := S8.out
                obtain ⟨z0, z1⟩ := hcl (n - 1 - k) (by omega)
                rw [← hf3] at z0 z1
                have HM3 := Lib.hid hf3
                clear hcl hf3
                go_wp2_with (at_builtin; with_reducible refine wpList_push_two w8 rfl _ _ 26 23 (.agg #[.int .i64 0, .int .i64 0]) rfl rfl Try.underlying26 ptInfo (w.heap.size + 2) A3 k q3 _ rfl V3.out (.int .i64 f3.x) (.int .i64 f3.y) rfl rfl rfl ?d1 ?d2 ?d3)
                case d1 => omega
                case d2 => exact hz8
                case d3 =>
                  intro A3' c3' w9 r3 l9 st9
                  have S9 := Lib.hid (S8.out.keep hb l9)
                  have X3 := Lib.hid (r3.congr fun j hj => push_co (fun j => F (n - 1 - j)) k f3 (by rw [HM3.out]) j hj)
                  obtain ⟨r1, p1⟩ := st9 A1' (k + 1) c1' _ V1.out PB.out.symm
                  obtain ⟨r2, p2⟩ := st9 A2' (k + 1) c2' _ V2.out PD.out.symm
                  have X1 := Lib.hid r1
                  have X2 := Lib.hid r2
                  have PE := Lib.hid p1
                  have PF := Lib.hid p2
                  clear r1 l9 st9 r2 r3 p1 p2 S8 V1 V2 V3 hz8 z0 z1
                  go_wp2
                  go_roundw
                  case rel =>
                    refine ⟨⟨A1', A2', A3', c1', c2', c3', k + 1, by omega, by go_num, by go_num, by go_num, by go_num, ?_, ?_, X1.out, X2.out, X3.out, PC.out, PE.out, PF.out⟩, S9.out⟩
                    · refine congrArg Value.bool ?_
                      show _ = (allB (fun j => movP v (F j)) k && mayB (movP v (F k)))
                      rw [← HMK.out]
                      rfl
                    · intro j hj
                      by_cases e : j = k
                      · rw [e, ← HF.out]; exact of_decide_eq_true HFM.out
                      · exact HM.out j (by omega)
                  case measure => simp [intOf]; omega
          · go_wp2_with fail
            (with_reducible refine (KQ.out _).mono ?_); rintro _ w6 ⟨rfl, l6⟩
            have S6 := Lib.hid (S5.out.call hb l6)
            have R1 := Lib.hid (P1.out.below l6)
            have R2 := Lib.hid (P2.out.below l6)
            have R3 := Lib.hid (P3.out.below l6)
            have u0 := kp' l6 (cell_lt' t0) t0
            have u1 := kp' l6 (cell_lt' t1) t1
            clear l6 t0 t1 S5 P1 P2 P3
            have hz6 := S6.out.2.1
            go_wp2_with (at_builtin; with_reducible refine wpList_push_two w6 rfl _ _ 26 23 (.agg #[.int .i64 0, .int .i64 0]) rfl rfl Try.underlying26 ptInfo (w.heap.size + 2) A1 k q1 _ rfl R1.out (.int .i64 q.x) (.int .i64 q.y) rfl rfl rfl ?d1 ?d2 ?d3)
            case d1 => omega
            case d2 => exact hz6
            case d3 =>
              intro A1' c1' w7 r1 l7 st7
              have S7 := Lib.hid (S6.out.keep hb l7)
              have T1 := Lib.hid (r1.congr fun j hj => push_co (fun j => movP v (F j)) k q (by rw [HQ.out, HF.out]) j hj)
              obtain ⟨r2, p2⟩ := st7 A2 k q2 _ R2.out P12.out.symm
              obtain ⟨r3, p3⟩ := st7 A3 k q3 _ R3.out P13.out.symm
              have T2 := Lib.hid r2
              have T3 := Lib.hid r3
              have PA := Lib.hid p2
              have PB := Lib.hid p3
              clear r1 l7 st7 r2 r3 p2 p3 S6 R1 R2 R3 u0 u1 hz6
              obtain ⟨m, hm2⟩ : ∃ m, m = (k + 1) % n := ⟨_, rfl⟩
              have hml : m < n := by rw [hm2]; exact Nat.mod_lt _ (by omega)
              have hmod := tmod_nat (n := n) hm2
              have hmod2 : ((k : Int) + 1) % (n : Int) = (m : Int) := by rw [hm2]; first | (rw [Int.natCast_emod]; rfl) | simp
              obtain ⟨f2, hf2⟩ : ∃ f2, f2 = F m := ⟨_, rfl⟩
              obtain ⟨_, hz7, _, _, hcl⟩ := S7.out
              obtain ⟨z0, z1⟩ := hcl m hml
              rw [← hf2] at z0 z1
              have HM2 := Lib.hid (And.intro hm2 hf2)
              clear hcl hm2 hf2
              go_wp2_with (at_builtin; with_reducible refine wpList_push_two w7 rfl _ _ 26 23 (.agg #[.int .i64 0, .int .i64 0]) rfl rfl Try.underlying26 ptInfo (w.heap.size + 2) A2 k q2 _ rfl T2.out (.int .i64 f2.x) (.int .i64 f2.y) rfl rfl rfl ?d1 ?d2 ?d3)
              case d1 => omega
              case d2 => exact hz7
              case d3 =>
                intro A2' c2' w8 r2 l8 st8
                have S8 := Lib.hid (S7.out.keep hb l8)
                have V2 := Lib.hid (r2.congr fun j hj => push_co (fun j => F ((j + 1) % n)) k f2 (by rw [HM2.out.2, HM2.out.1]) j hj)
                obtain ⟨r1, p1⟩ := st8 A1' (k + 1) c1' _ T1.out PA.out.symm
                obtain ⟨r3, p3⟩ := st8 A3 k q3 _ T3.out P23.out.symm
                have V1 := Lib.hid r1
                have V3 := Lib.hid r3
                have PC := Lib.hid p1
                have PD := Lib.hid p3
                clear r1 l8 st8 r2 r3 p1 p3 S7 T1 T2 T3 hz7 z0 z1 hmod hmod2
                obtain ⟨f3, hf3⟩ : ∃ f3, f3 = F (n - 1 - k) := ⟨_, rfl⟩
                obtain ⟨_, hz8, _, _, hcl⟩ := S8.out
                obtain ⟨z0, z1⟩ := hcl (n - 1 - k) (by omega)
                rw [← hf3] at z0 z1
                have HM3 := Lib.hid hf3
                clear hcl hf3
                go_wp2_with (at_builtin; with_reducible refine wpList_push_two w8 rfl _ _ 26 23 (.agg #[.int .i64 0, .int .i64 0]) rfl rfl Try.underlying26 ptInfo (w.heap.size + 2) A3 k q3 _ rfl V3.out (.int .i64 f3.x) (.int .i64 f3.y) rfl rfl rfl ?d1 ?d2 ?d3)
                case d1 => omega
                case d2 => exact hz8
                case d3 =>
                  intro A3' c3' w9 r3 l9 st9
                  have S9 := Lib.hid (S8.out.keep hb l9)
                  have X3 := Lib.hid (r3.congr fun j hj => push_co (fun j => F (n - 1 - j)) k f3 (by rw [HM3.out]) j hj)
                  obtain ⟨r1, p1⟩ := st9 A1' (k + 1) c1' _ V1.out PB.out.symm
                  obtain ⟨r2, p2⟩ := st9 A2' (k + 1) c2' _ V2.out PD.out.symm
                  have X1 := Lib.hid r1
                  have X2 := Lib.hid r2
                  have PE := Lib.hid p1
                  have PF := Lib.hid p2
                  clear r1 l9 st9 r2 r3 p1 p2 S8 V1 V2 V3 hz8 z0 z1
                  go_wp2
                  go_roundw
                  case rel =>
                    refine ⟨⟨A1', A2', A3', c1', c2', c3', k + 1, by omega, by go_num, by go_num, by go_num, by go_num, ?_, ?_, X1.out, X2.out, X3.out, PC.out, PE.out, PF.out⟩, S9.out⟩
                    · refine congrArg Value.bool ?_
                      show _ = (allB (fun j => movP v (F j)) k && mayB (movP v (F k)))
                      rw [← HMK.out, ← HF.out, ← HQ.out, ← HMQ.out]
                      rfl
                    · intro j hj
                      by_cases e : j = k
                      · rw [e, ← HF.out]; exact of_decide_eq_true HFM.out
                      · exact HM.out j (by omega)
                  case measure => simp [intOf]; omega
        · have LQ := Lib.hid ((hS.1.setCell (p := ⟨w3.heap.size, 0, none⟩) (Nat.le_refl _) (.int .i64 q.x)).setCell (p := ⟨w3.heap.size, 1, none⟩) (Nat.le_refl _) (.int .i64 q.y))
          have t0 : ((w'.setCell ⟨w3.heap.size, 0, none⟩ (.int .i64 q.x)).setCell ⟨w3.heap.size, 1, none⟩ (.int .i64 q.y)).cell? ⟨w3.heap.size, 0, none⟩ = some (.int .i64 q.x) := by go_simp
          have t1 : ((w'.setCell ⟨w3.heap.size, 0, none⟩ (.int .i64 q.x)).setCell ⟨w3.heap.size, 1, none⟩ (.int .i64 q.y)).cell? ⟨w3.heap.size, 1, none⟩ = some (.int .i64 q.y) := by go_simp
          generalize ((w'.setCell ⟨w3.heap.size, 0, none⟩ (.int .i64 q.x)).setCell ⟨w3.heap.size, 1, none⟩ (.int .i64 q.y)) = W5 at LQ t0 t1 ⊢
          generalize w3.heap.size = gq at t0 t1 ⊢
          have S5 := Lib.hid (S4.out.call hb LQ.out)
          have P1 := Lib.hid (O1'.out.below LQ.out)
          have P2 := Lib.hid (O2'.out.below LQ.out)
          have P3 := Lib.hid (O3'.out.below LQ.out)
          clear hS HSa S4 O1' O2' O3' LQ
          have KQ := Lib.hid fun W => KM.out q W
          obtain ⟨mq, hmq⟩ : ∃ m, m = mayB q := ⟨_, rfl⟩
          have HMQ := Lib.hid hmq
          rw [← hmq] at KQ
          clear hmq
          cases mk
          · have hz6 := S5.out.2.1
            go_wp2_with (at_builtin; with_reducible refine wpList_push_two W5 rfl _ _ 26 23 (.agg #[.int .i64 0, .int .i64 0]) rfl rfl Try.underlying26 ptInfo (w.heap.size + 2) A1 k q1 _ rfl P1.out (.int .i64 q.x) (.int .i64 q.y) rfl rfl rfl ?d1 ?d2 ?d3)
            case d1 => omega
            case d2 => exact hz6
            case d3 =>
              intro A1' c1' w7 r1 l7 st7
              have S7 := Lib.hid (S5.out.keep hb l7)
              have T1 := Lib.hid (r1.congr fun j hj => push_co (fun j => movP v (F j)) k q (by rw [HQ.out, HF.out]) j hj)
              obtain ⟨r2, p2⟩ := st7 A2 k q2 _ P2.out P12.out.symm
              obtain ⟨r3, p3⟩ := st7 A3 k q3 _ P3.out P13.out.symm
              have T2 := Lib.hid r2
              have T3 := Lib.hid r3
              have PA := Lib.hid p2
              have PB := Lib.hid p3
              clear r1 l7 st7 r2 r3 p2 p3 S5 P1 P2 P3 t0 t1 hz6
              obtain ⟨m, hm2⟩ : ∃ m, m = (k + 1) % n := ⟨_, rfl⟩
              have hml : m < n := by rw [hm2]; exact Nat.mod_lt _ (by omega)
              have hmod := tmod_nat (n := n) hm2
              have hmod2 : ((k : Int) + 1) % (n : Int) = (m : Int) := by rw [hm2]; first | (rw [Int.natCast_emod]; rfl) | simp
              obtain ⟨f2, hf2⟩ : ∃ f2, f2 = F m := ⟨_, rfl⟩
              obtain ⟨_, hz7, _, _, hcl⟩ := S7.out
              obtain ⟨z0, z1⟩ := hcl m hml
              rw [← hf2] at z0 z1
              have HM2 := Lib.hid (And.intro hm2 hf2)
              clear hcl hm2 hf2
              go_wp2_with (at_builtin; with_reducible refine wpList_push_two w7 rfl _ _ 26 23 (.agg #[.int .i64 0, .int .i64 0]) rfl rfl Try.underlying26 ptInfo (w.heap.size + 2) A2 k q2 _ rfl T2.out (.int .i64 f2.x) (.int .i64 f2.y) rfl rfl rfl ?d1 ?d2 ?d3)
              case d1 => omega
              case d2 => exact hz7
              case d3 =>
                intro A2' c2' w8 r2 l8 st8
                have S8 := Lib.hid (S7.out.keep hb l8)
                have V2 := Lib.hid (r2.congr fun j hj => push_co (fun j => F ((j + 1) % n)) k f2 (by rw [HM2.out.2, HM2.out.1]) j hj)
                obtain ⟨r1, p1⟩ := st8 A1' (k + 1) c1' _ T1.out PA.out.symm
                obtain ⟨r3, p3⟩ := st8 A3 k q3 _ T3.out P23.out.symm
                have V1 := Lib.hid r1
                have V3 := Lib.hid r3
                have PC := Lib.hid p1
                have PD := Lib.hid p3
                clear r1 l8 st8 r2 r3 p1 p3 S7 T1 T2 T3 hz7 z0 z1 hmod hmod2
                obtain ⟨f3, hf3⟩ : ∃ f3, f3 = F (n - 1 - k) := ⟨_, rfl⟩
                obtain ⟨_, hz8, _, _, hcl⟩ := S8.out
                obtain ⟨z0, z1⟩ := hcl (n - 1 - k) (by omega)
                rw [← hf3] at z0 z1
                have HM3 := Lib.hid hf3
                clear hcl hf3
                go_wp2_with (at_builtin; with_reducible refine wpList_push_two w8 rfl _ _ 26 23 (.agg #[.int .i64 0, .int .i64 0]) rfl rfl Try.underlying26 ptInfo (w.heap.size + 2) A3 k q3 _ rfl V3.out (.int .i64 f3.x) (.int .i64 f3.y) rfl rfl rfl ?d1 ?d2 ?d3)
                case d1 => omega
                case d2 => exact hz8
                case d3 =>
                  intro A3' c3' w9 r3 l9 st9
                  have S9 := Lib.hid (S8.out.keep hb l9)
                  have X3 := Lib.hid (r3.congr fun j hj => push_co (fun j => F (n - 1 - j)) k f3 (by rw [HM3.out]) j hj)
                  obtain ⟨r1, p1⟩ := st9 A1' (k + 1) c1' _ V1.out PB.out.symm
                  obtain ⟨r2, p2⟩ := st9 A2' (k + 1) c2' _ V2.out PD.out.symm
                  have X1 := Lib.hid r1
                  have X2 := Lib.hid r2
                  have PE := Lib.hid p1
                  have PF := Lib.hid p2
                  clear r1 l9 st9 r2 r3 p1 p2 S8 V1 V2 V3 hz8 z0 z1
                  go_wp2
                  go_roundw
                  case rel =>
                    refine ⟨⟨A1', A2', A3', c1', c2', c3', k + 1, by omega, by go_num, by go_num, by go_num, by go_num, ?_, ?_, X1.out, X2.out, X3.out, PC.out, PE.out, PF.out⟩, S9.out⟩
                    · refine congrArg Value.bool ?_
                      show _ = (allB (fun j => movP v (F j)) k && mayB (movP v (F k)))
                      rw [← HMK.out]
                      rfl
                    · intro j hj
                      by_cases e : j = k
                      · rw [e, ← HF.out]; exact of_decide_eq_true HFM.out
                      · exact HM.out j (by omega)
                  case measure => simp [intOf]; omega
          · go_wp2_with fail
            (with_reducible refine (KQ.out _).mono ?_); rintro _ w6 ⟨rfl, l6⟩
            have S6 := Lib.hid (S5.out.call hb l6)
            have R1 := Lib.hid (P1.out.below l6)
            have R2 := Lib.hid (P2.out.below l6)
            have R3 := Lib.hid (P3.out.below l6)
            have u0 := kp' l6 (cell_lt' t0) t0
            have u1 := kp' l6 (cell_lt' t1) t1
            clear l6 t0 t1 S5 P1 P2 P3
            have hz6 := S6.out.2.1
            go_wp2_with (at_builtin; with_reducible refine wpList_push_two w6 rfl _ _ 26 23 (.agg #[.int .i64 0, .int .i64 0]) rfl rfl Try.underlying26 ptInfo (w.heap.size + 2) A1 k q1 _ rfl R1.out (.int .i64 q.x) (.int .i64 q.y) rfl rfl rfl ?d1 ?d2 ?d3)
            case d1 => omega
            case d2 => exact hz6
            case d3 =>
              intro A1' c1' w7 r1 l7 st7
              have S7 := Lib.hid (S6.out.keep hb l7)
              have T1 := Lib.hid (r1.congr fun j hj => push_co (fun j => movP v (F j)) k q (by rw [HQ.out, HF.out]) j hj)
              obtain ⟨r2, p2⟩ := st7 A2 k q2 _ R2.out P12.out.symm
              obtain ⟨r3, p3⟩ := st7 A3 k q3 _ R3.out P13.out.symm
              have T2 := Lib.hid r2
              have T3 := Lib.hid r3
              have PA := Lib.hid p2
              have PB := Lib.hid p3
              clear r1 l7 st7 r2 r3 p2 p3 S6 R1 R2 R3 u0 u1 hz6
              obtain ⟨m, hm2⟩ : ∃ m, m = (k + 1) % n := ⟨_, rfl⟩
              have hml : m < n := by rw [hm2]; exact Nat.mod_lt _ (by omega)
              have hmod := tmod_nat (n := n) hm2
              have hmod2 : ((k : Int) + 1) % (n : Int) = (m : Int) := by rw [hm2]; first | (rw [Int.natCast_emod]; rfl) | simp
              obtain ⟨f2, hf2⟩ : ∃ f2, f2 = F m := ⟨_, rfl⟩
              obtain ⟨_, hz7, _, _, hcl⟩ := S7.out
              obtain ⟨z0, z1⟩ := hcl m hml
              rw [← hf2] at z0 z1
              have HM2 := Lib.hid (And.intro hm2 hf2)
              clear hcl hm2 hf2
              go_wp2_with (at_builtin; with_reducible refine wpList_push_two w7 rfl _ _ 26 23 (.agg #[.int .i64 0, .int .i64 0]) rfl rfl Try.underlying26 ptInfo (w.heap.size + 2) A2 k q2 _ rfl T2.out (.int .i64 f2.x) (.int .i64 f2.y) rfl rfl rfl ?d1 ?d2 ?d3)
              case d1 => omega
              case d2 => exact hz7
              case d3 =>
                intro A2' c2' w8 r2 l8 st8
                have S8 := Lib.hid (S7.out.keep hb l8)
                have V2 := Lib.hid (r2.congr fun j hj => push_co (fun j => F ((j + 1) % n)) k f2 (by rw [HM2.out.2, HM2.out.1]) j hj)
                obtain ⟨r1, p1⟩ := st8 A1' (k + 1) c1' _ T1.out PA.out.symm
                obtain ⟨r3, p3⟩ := st8 A3 k q3 _ T3.out P23.out.symm
                have V1 := Lib.hid r1
                have V3 := Lib.hid r3
                have PC := Lib.hid p1
                have PD := Lib.hid p3
                clear r1 l8 st8 r2 r3 p1 p3 S7 T1 T2 T3 hz7 z0 z1 hmod hmod2
                obtain ⟨f3, hf3⟩ : ∃ f3, f3 = F (n - 1 - k) := ⟨_, rfl⟩
                obtain ⟨_, hz8, _, _, hcl⟩ := S8.out
                obtain ⟨z0, z1⟩ := hcl (n - 1 - k) (by omega)
                rw [← hf3] at z0 z1
                have HM3 := Lib.hid hf3
                clear hcl hf3
                go_wp2_with (at_builtin; with_reducible refine wpList_push_two w8 rfl _ _ 26 23 (.agg #[.int .i64 0, .int .i64 0]) rfl rfl Try.underlying26 ptInfo (w.heap.size + 2) A3 k q3 _ rfl V3.out (.int .i64 f3.x) (.int .i64 f3.y) rfl rfl rfl ?d1 ?d2 ?d3)
                case d1 => omega
                case d2 => exact hz8
                case d3 =>
                  intro A3' c3' w9 r3 l9 st9
                  have S9 := Lib.hid (S8.out.keep hb l9)
                  have X3 := Lib.hid (r3.congr fun j hj => push_co (fun j => F (n - 1 - j)) k f3 (by rw [HM3.out]) j hj)
                  obtain ⟨r1, p1⟩ := st9 A1' (k + 1) c1' _ V1.out PB.out.symm
                  obtain ⟨r2, p2⟩ := st9 A2' (k + 1) c2' _ V2.out PD.out.symm
                  have X1 := Lib.hid r1
                  have X2 := Lib.hid r2
                  have PE := Lib.hid p1
                  have PF := Lib.hid p2
                  clear r1 l9 st9 r2 r3 p1 p2 S8 V1 V2 V3 hz8 z0 z1
                  go_wp2
                  go_roundw
                  case rel =>
                    refine ⟨⟨A1', A2', A3', c1', c2', c3', k + 1, by omega, by go_num, by go_num, by go_num, by go_num, ?_, ?_, X1.out, X2.out, X3.out, PC.out, PE.out, PF.out⟩, S9.out⟩
                    · refine congrArg Value.bool ?_
                      show _ = (allB (fun j => movP v (F j)) k && mayB (movP v (F k)))
                      rw [← HMK.out, ← HF.out, ← HQ.out, ← HMQ.out]
                      rfl
                    · intro j hj
                      by_cases e : j = k
                      · rw [e, ← HF.out]; exact of_decide_eq_true HFM.out
                      · exact HM.out j (by omega)
                  case measure => simp [intOf]; omega
    · obtain rfl : k = n := by omega
      obtain ⟨_, _, ⟨x0, x1⟩, ⟨y0, y1⟩, hcl⟩ := S3.out
      have ki := inside_any (some ⟨b, o, none⟩) k c F p wr ⟨by omega, fun _ => ⟨b, o, rfl, hcl⟩⟩ (by omega)
      obtain ⟨vv, hvv⟩ : ∃ vv, vv = insideI F k p := ⟨_, rfl⟩
      rw [← hvv] at ki
      have KI := Lib.hid ki
      have HVV := Lib.hid hvv
      clear ki hcl hvv
      obtain ⟨mk, hmk⟩ : ∃ m, m = allB (fun j => movP v (F j)) k := ⟨_, rfl⟩
      rw [← hmk]
      have HMK := Lib.hid hmk
      clear hmk
      have hfb := HPp.out
      have hvb := HV.out
      unfold MayP at hfb hvb
      obtain ⟨q, hq⟩ : ∃ q, q = movP v p := ⟨_, rfl⟩
      have hw0 : IntKind.i64.wrap (p.x + v.x) = q.x := by rw [IntKind.wrap_i64, hq]; show _ = p.x + v.x; omega
      have hw1 : IntKind.i64.wrap (p.y + v.y) = q.y := by rw [IntKind.wrap_i64, hq]; show _ = p.y + v.y; omega
      have hw2 : p.x + v.x = q.x := by rw [hq]; rfl
      have hw3 : p.y + v.y = q.y := by rw [hq]; rfl
      have hw4 : IntKind.i64.wrap q.x = q.x := by rw [← hw2, IntKind.wrap_i64]; omega
      have hw5 : IntKind.i64.wrap q.y = q.y := by rw [← hw3, IntKind.wrap_i64]; omega
      have HQ := Lib.hid hq
      have KA := Lib.hid fun W => KAt.out q.x q.y W
      have HW := Lib.hid (And.intro hw0 (And.intro hw1 (And.intro hw2 (And.intro hw3 (And.intro hw4 hw5)))))
      clear hq hfb hvb hw0 hw1 hw2 hw3 hw4 hw5 x0 x1 y0 y1
      obtain ⟨_, _, ⟨x0, x1⟩, ⟨y0, y1⟩, _⟩ := S3.out
      go_wp2_with fail
      (with_reducible refine (KI.out).mono ?_); rintro _ w4 ⟨rfl, l4⟩
      have S4 := Lib.hid (S3.out.call hb l4)
      have R1 := Lib.hid (O1.out.below l4)
      have R2 := Lib.hid (O2.out.below l4)
      have R3 := Lib.hid (O3.out.below l4)
      clear l4 O1 O2 O3 S3 x0 x1 y0 y1
      obtain ⟨_, _, ⟨x0, x1⟩, ⟨y0, y1⟩, _⟩ := S4.out
      obtain ⟨hw0, hw1, hw2, hw3, hw4, hw5⟩ := HW.out
      clear hw0 hw1
      go_wp2_with fail
      (with_reducible refine (KA.out _).mono ?_); rintro _ w5 ⟨rfl, l5⟩
      have l6 := l5.alloc l5.size (.cells #[.int .i64 q.x, .int .i64 q.y] 23)
      have t0 : (w5.alloc (.cells #[.int .i64 q.x, .int .i64 q.y] 23)).cell? ⟨w5.heap.size, 0, none⟩ = some (.int .i64 q.x) := by go_simp
      have t1 : (w5.alloc (.cells #[.int .i64 q.x, .int .i64 q.y] 23)).cell? ⟨w5.heap.size, 1, none⟩ = some (.int .i64 q.y) := by go_simp
      have S6 := Lib.hid (S4.out.call hb l6)
      have V1 := Lib.hid (R1.out.below l6)
      have V2 := Lib.hid (R2.out.below l6)
      have V3 := Lib.hid (R3.out.below l6)
      have T0 := Lib.hid (And.intro t0 t1)
      clear l5 l6 R1 R2 R3 S4 hw2 hw3 hw4 hw5 x0 x1 y0 y1 t0 t1
      have KQ := Lib.hid fun W => KM.out q W
      obtain ⟨mq, hmq⟩ : ∃ m, m = mayB q := ⟨_, rfl⟩
      have HMQ := Lib.hid hmq
      rw [← hmq] at KQ
      clear hmq
      cases mk
      · have hS6 := S6
        have ka := inside_any A2 k q2 (fun j => F ((j + 1) % k)) p (w5.alloc (.cells #[.int .i64 q.x, .int .i64 q.y] 23)) (OwnP.pts V2.out) (by omega)
        rw [show insideI (fun j => F ((j + 1) % k)) k p = vv by rw [HVV.out]; exact inside_next p (fun _ _ => rfl)] at ka
        have KA2 := Lib.hid ka
        clear ka
        obtain ⟨_, _, ⟨x0, x1⟩, _, _⟩ := S6.out
        go_wp2_with fail
        (with_reducible refine (KA2.out).mono ?_); rintro _ wa ⟨rfl, la⟩
        have Sa := Lib.hid (S6.out.call hb la)
        have Oa := Lib.hid (V3.out.below la)
        clear la x0 x1
        have kb := inside_any A3 k q3 (fun j => F (k - 1 - j)) p wa (OwnP.pts Oa.out) (by omega)
        rw [show insideI (fun j => F (k - 1 - j)) k p = vv by rw [HVV.out]; exact inside_back p (fun _ _ => rfl)] at kb
        have KB2 := Lib.hid kb
        clear kb
        obtain ⟨_, _, ⟨x0, x1⟩, _, _⟩ := Sa.out
        go_wp2_with fail
        (with_reducible refine (KB2.out).mono ?_); rintro _ wb ⟨rfl, lb⟩
        have Lb := Lib.hid (Sa.out.1.trans (lb.mono Sa.out.1.size))
        clear lb x0 x1
        go_wp2_with fail
        (with_reducible refine (K.out _).mono ?_); rintro _ wd ⟨rfl, ld⟩
        have Ld := Lib.hid (below2' Lb.out ld)
        clear ld
        go_wp2
        go_ret
        exact ⟨rfl, Ld.out⟩
      · obtain ⟨t0, t1⟩ := T0.out
        go_wp2_with fail
        (with_reducible refine (KQ.out _).mono ?_); rintro _ w6 ⟨rfl, l6⟩
        have S7 := Lib.hid (S6.out.call hb l6)
        have U1 := Lib.hid (V1.out.below l6)
        have U2 := Lib.hid (V2.out.below l6)
        have U3 := Lib.hid (V3.out.below l6)
        have u0 := kp' l6 (cell_lt' t0) t0
        have u1 := kp' l6 (cell_lt' t1) t1
        clear l6 t0 t1 S6 V1 V2 V3
        cases mq
        · have ka := inside_any A2 k q2 (fun j => F ((j + 1) % k)) p (w6) (OwnP.pts U2.out) (by omega)
          rw [show insideI (fun j => F ((j + 1) % k)) k p = vv by rw [HVV.out]; exact inside_next p (fun _ _ => rfl)] at ka
          have KA2 := Lib.hid ka
          clear ka
          obtain ⟨_, _, ⟨x0, x1⟩, _, _⟩ := S7.out
          go_wp2_with fail
          (with_reducible refine (KA2.out).mono ?_); rintro _ wa ⟨rfl, la⟩
          have Sa := Lib.hid (S7.out.call hb la)
          have Oa := Lib.hid (U3.out.below la)
          clear la x0 x1
          have kb := inside_any A3 k q3 (fun j => F (k - 1 - j)) p wa (OwnP.pts Oa.out) (by omega)
          rw [show insideI (fun j => F (k - 1 - j)) k p = vv by rw [HVV.out]; exact inside_back p (fun _ _ => rfl)] at kb
          have KB2 := Lib.hid kb
          clear kb
          obtain ⟨_, _, ⟨x0, x1⟩, _, _⟩ := Sa.out
          go_wp2_with fail
          (with_reducible refine (KB2.out).mono ?_); rintro _ wb ⟨rfl, lb⟩
          have Lb := Lib.hid (Sa.out.1.trans (lb.mono Sa.out.1.size))
          clear lb x0 x1
          go_wp2_with fail
          (with_reducible refine (K.out _).mono ?_); rintro _ wd ⟨rfl, ld⟩
          have Ld := Lib.hid (below2' Lb.out ld)
          clear ld
          go_wp2
          go_ret
          exact ⟨rfl, Ld.out⟩
        · have ki2 := inside_any A1 k q1 (fun j => movP v (F j)) q w6 (OwnP.pts U1.out) (by omega)
          rw [show insideI (fun j => movP v (F j)) k q = vv by rw [HVV.out, HQ.out]; exact inside_mov (fun _ _ => rfl) HM.out ((allB_iff _ _).1 HMK.out.symm) HPp.out (by rw [← HQ.out]; exact of_decide_eq_true HMQ.out.symm)] at ki2
          have KI2 := Lib.hid ki2
          clear ki2
          go_wp2_with fail
          (with_reducible refine (KI2.out).mono ?_); rintro _ w7 ⟨rfl, l7⟩
          have S8 := Lib.hid (S7.out.call hb l7)
          have Y2 := Lib.hid (U2.out.below l7)
          have Y3 := Lib.hid (U3.out.below l7)
          clear l7 u0 u1 S7 U1 U2 U3
          have ka := inside_any A2 k q2 (fun j => F ((j + 1) % k)) p (w7) (OwnP.pts Y2.out) (by omega)
          rw [show insideI (fun j => F ((j + 1) % k)) k p = vv by rw [HVV.out]; exact inside_next p (fun _ _ => rfl)] at ka
          have KA2 := Lib.hid ka
          clear ka
          obtain ⟨_, _, ⟨x0, x1⟩, _, _⟩ := S8.out
          go_wp2_with fail
          (with_reducible refine (KA2.out).mono ?_); rintro _ wa ⟨rfl, la⟩
          have Sa := Lib.hid (S8.out.call hb la)
          have Oa := Lib.hid (Y3.out.below la)
          clear la x0 x1
          have kb := inside_any A3 k q3 (fun j => F (k - 1 - j)) p wa (OwnP.pts Oa.out) (by omega)
          rw [show insideI (fun j => F (k - 1 - j)) k p = vv by rw [HVV.out]; exact inside_back p (fun _ _ => rfl)] at kb
          have KB2 := Lib.hid kb
          clear kb
          obtain ⟨_, _, ⟨x0, x1⟩, _, _⟩ := Sa.out
          go_wp2_with fail
          (with_reducible refine (KB2.out).mono ?_); rintro _ wb ⟨rfl, lb⟩
          have Lb := Lib.hid (Sa.out.1.trans (lb.mono Sa.out.1.size))
          clear lb x0 x1
          go_wp2_with fail
          (with_reducible refine (K.out _).mono ?_); rintro _ wd ⟨rfl, ld⟩
          have Ld := Lib.hid (below2' Lb.out ld)
          clear ld
          go_wp2
          go_ret
          exact ⟨rfl, Ld.out⟩
end Go.Proofs.Ytlkdjpidofnhdaa
