/- The document's Inside: the walk. -/
import Derived.Test.YtlkdjpidofnhdaaGRingM
import Derived.Test.YtlkdjpidofnhdaaGRefMeet
import Derived.Deep.DeepCutAuto
import Derived.Deep.CutRange
import Derived.Deep.RegionHeld3
namespace Go.Proofs.Ytlkdjpidofnhdaa
open Go.RowKit
set_option linter.unusedVariables false

theorem s5_keep {w0 W W' : World} {b1 o1 b2 o2 : Nat} {f h : Pt} (l : Below W.heap.size W W') (hS : Below w0.heap.size w0 W ∧ W.cell? ⟨b1, o1, none⟩ = some (.int .i64 f.x) ∧ W.cell? ⟨b1, o1 + 1, none⟩ = some (.int .i64 f.y) ∧ W.cell? ⟨b2, o2, none⟩ = some (.int .i64 h.x) ∧ W.cell? ⟨b2, o2 + 1, none⟩ = some (.int .i64 h.y)) : Below w0.heap.size w0 W' ∧ W'.cell? ⟨b1, o1, none⟩ = some (.int .i64 f.x) ∧ W'.cell? ⟨b1, o1 + 1, none⟩ = some (.int .i64 f.y) ∧ W'.cell? ⟨b2, o2, none⟩ = some (.int .i64 h.x) ∧ W'.cell? ⟨b2, o2 + 1, none⟩ = some (.int .i64 h.y) :=
  ⟨below2' hS.1 l, kp' l (cell_lt' hS.2.1) hS.2.1, kp' l (cell_lt' hS.2.2.1) hS.2.2.1, kp' l (cell_lt' hS.2.2.2.1) hS.2.2.2.1, kp' l (cell_lt' hS.2.2.2.2) hS.2.2.2.2⟩
theorem s5_alloc {w0 W : World} {b1 o1 b2 o2 : Nat} {f h : Pt} (ob : Obj) (hS : Below w0.heap.size w0 W ∧ W.cell? ⟨b1, o1, none⟩ = some (.int .i64 f.x) ∧ W.cell? ⟨b1, o1 + 1, none⟩ = some (.int .i64 f.y) ∧ W.cell? ⟨b2, o2, none⟩ = some (.int .i64 h.x) ∧ W.cell? ⟨b2, o2 + 1, none⟩ = some (.int .i64 h.y)) : Below w0.heap.size w0 (W.alloc ob) ∧ (W.alloc ob).cell? ⟨b1, o1, none⟩ = some (.int .i64 f.x) ∧ (W.alloc ob).cell? ⟨b1, o1 + 1, none⟩ = some (.int .i64 f.y) ∧ (W.alloc ob).cell? ⟨b2, o2, none⟩ = some (.int .i64 h.x) ∧ (W.alloc ob).cell? ⟨b2, o2 + 1, none⟩ = some (.int .i64 h.y) := s5_keep ((Below.refl _ _).alloc (Nat.le_refl _) _) hS
theorem s5_drew {w0 W : World} {b1 o1 b2 o2 : Nat} {f h : Pt} (hS : Below w0.heap.size w0 W ∧ W.cell? ⟨b1, o1, none⟩ = some (.int .i64 f.x) ∧ W.cell? ⟨b1, o1 + 1, none⟩ = some (.int .i64 f.y) ∧ W.cell? ⟨b2, o2, none⟩ = some (.int .i64 h.x) ∧ W.cell? ⟨b2, o2 + 1, none⟩ = some (.int .i64 h.y)) : Below w0.heap.size w0 W.drew ∧ W.drew.cell? ⟨b1, o1, none⟩ = some (.int .i64 f.x) ∧ W.drew.cell? ⟨b1, o1 + 1, none⟩ = some (.int .i64 f.y) ∧ W.drew.cell? ⟨b2, o2, none⟩ = some (.int .i64 h.x) ∧ W.drew.cell? ⟨b2, o2 + 1, none⟩ = some (.int .i64 h.y) := s5_keep (Below.refl _ _).drew hS
theorem put2_far {W : World} {z b2 o : Nat} {q : Pt} (hb : b2 ≠ z) {v : Value} (h : W.cell? ⟨b2, o, none⟩ = some v) : ((W.setCell ⟨z, 0, none⟩ (.int .i64 q.x)).setCell ⟨z, 1, none⟩ (.int .i64 q.y)).cell? ⟨b2, o, none⟩ = some v := by
  have k : ∀ (V : World) (i : Nat) (u : Value), (V.setCell ⟨z, i, none⟩ u).cell? ⟨b2, o, none⟩ = V.cell? ⟨b2, o, none⟩ := fun V i u => World.cell?_setCell_far V _ _ u (Ne.symm hb)
  rw [k, k, h]
theorem s5_put {w0 W : World} {b1 o1 b2 o2 z : Nat} {f h q : Pt} (hS : Below w0.heap.size w0 W ∧ W.cell? ⟨b1, o1, none⟩ = some (.int .i64 f.x) ∧ W.cell? ⟨b1, o1 + 1, none⟩ = some (.int .i64 f.y) ∧ W.cell? ⟨b2, o2, none⟩ = some (.int .i64 h.x) ∧ W.cell? ⟨b2, o2 + 1, none⟩ = some (.int .i64 h.y)) (h1 : b1 < z) (h2 : b2 < z) (h3 : w0.heap.size ≤ z) : Below w0.heap.size w0 ((W.setCell ⟨z, 0, none⟩ (.int .i64 q.x)).setCell ⟨z, 1, none⟩ (.int .i64 q.y)) ∧ ((W.setCell ⟨z, 0, none⟩ (.int .i64 q.x)).setCell ⟨z, 1, none⟩ (.int .i64 q.y)).cell? ⟨b1, o1, none⟩ = some (.int .i64 f.x) ∧ ((W.setCell ⟨z, 0, none⟩ (.int .i64 q.x)).setCell ⟨z, 1, none⟩ (.int .i64 q.y)).cell? ⟨b1, o1 + 1, none⟩ = some (.int .i64 f.y) ∧ ((W.setCell ⟨z, 0, none⟩ (.int .i64 q.x)).setCell ⟨z, 1, none⟩ (.int .i64 q.y)).cell? ⟨b2, o2, none⟩ = some (.int .i64 h.x) ∧ ((W.setCell ⟨z, 0, none⟩ (.int .i64 q.x)).setCell ⟨z, 1, none⟩ (.int .i64 q.y)).cell? ⟨b2, o2 + 1, none⟩ = some (.int .i64 h.y) :=
  ⟨(hS.1.setCell (p := ⟨z, 0, none⟩) h3 _).setCell (p := ⟨z, 1, none⟩) h3 _, put2_far (by omega) hS.2.1, put2_far (by omega) hS.2.2.1, put2_far (by omega) hS.2.2.2.1, put2_far (by omega) hS.2.2.2.2⟩
/-- Two points in cells of their own, made since w. -/
def Two (w : World) (f h : Pt) (u1 u2 : Value) (W : World) : Prop := ∃ g1 g2 : Nat, (u1 = .pointer (some ⟨g1, 0, none⟩) ∧ u2 = .pointer (some ⟨g2, 0, none⟩)) ∧ (g1 ≠ g2 ∧ w.heap.size ≤ g1 ∧ w.heap.size ≤ g2 ∧ (W.frozen? ⟨g1, 0, none⟩ = false ∧ W.frozen? ⟨g1, 1, none⟩ = false) ∧ (W.frozen? ⟨g2, 0, none⟩ = false ∧ W.frozen? ⟨g2, 1, none⟩ = false)) ∧ Below w.heap.size w W ∧ (W.cell? ⟨g1, 0, none⟩ = some (.int .i64 f.x) ∧ W.cell? ⟨g1, 1, none⟩ = some (.int .i64 f.y)) ∧ (W.cell? ⟨g2, 0, none⟩ = some (.int .i64 h.x) ∧ W.cell? ⟨g2, 1, none⟩ = some (.int .i64 h.y))
theorem upX_succ (F : Nat → Pt) (n : Nat) (p : Pt) (m : Nat) : upX F n p (m + 1) = (upX F n p m != upB (edgeAt F n m).1 (edgeAt F n m).2 p) := rfl
theorem onX_succ {F : Nat → Pt} {n : Nat} {p : Pt} {m : Nat} (h : ¬ onX F n p m) (h2 : onB (edgeAt F n m).1 (edgeAt F n m).2 p = false) : ¬ onX F n p (m + 1) := by
  rintro ⟨k, hk, ho⟩
  by_cases e : k = m
  · rw [e, h2] at ho; cases ho
  · exact h ⟨k, by omega, ho⟩
theorem ref_end {F : Nat → Pt} {n : Nat} {p : Pt} (h0 : 0 < n) (hF : MayN F n) (hp : MayP p) (ho : ¬ onX F n p n) : insideI F n p = if upX F n p n then 1 else -1 := by
  have hok : InOk F n p = true := by unfold InOk; rw [(allB_iff F n).2 hF, may_yes hp]; simp; omega
  have hon : onL p (uptoE F n n) = false := by
    cases e : onL p (uptoE F n n)
    · rfl
    · exact absurd ((onL_iff F n p n).1 e) ho
  rw [in_side hok hon, sideL_ah, lines_same hF hp ho]
theorem ref_on {F : Nat → Pt} {n k : Nat} {p : Pt} (hk : k < n) (h : onB (edgeAt F n k).1 (edgeAt F n k).2 p = true) : insideI F n p = 0 := in_on ((onL_iff F n p n).2 ⟨k, hk, h⟩)
set_option maxRecDepth 100000 in
set_option maxHeartbeats 16000000 in
theorem refIn_main (b o n c : Nat) (F : Nat → Pt) (p : Pt) (w : World) (hP : Pts w (some ⟨b, o, none⟩) n F) (hF : MayN F n) (hp : MayP p) (hn : n ≤ 1000) (h0 : 0 < n) : Calls Try.prog 22 #[.slice (some ⟨b, o, none⟩) n c, .agg #[.int .i64 p.x, .int .i64 p.y]] w fun e w' => e = .returned (.int .i64 (insideI F n p)) ∧ Below w.heap.size w w' := by
  have hL : Below w.heap.size w (w.alloc (.cells #[.int .i64 p.x, .int .i64 p.y] 23)) := (Below.refl w.heap.size w).alloc (Nat.le_refl _) _
  have hb : b < w.heap.size := by
    obtain ⟨b', o', e', hcl'⟩ := hP.2 h0
    obtain ⟨rfl, rfl⟩ : b = b' ∧ o = o' := by injection e' with e; injection e with e1 e2; exact ⟨e1, e2⟩
    exact cell_lt' (hcl' 0 h0).1
  have hcl : ∀ i, i < n → w.cell? ⟨b, o + i * 2, none⟩ = some (.int .i64 (F i).x) ∧ w.cell? ⟨b, o + i * 2 + 1, none⟩ = some (.int .i64 (F i).y) := by
    obtain ⟨b', o', e', hcl'⟩ := hP.2 h0
    obtain ⟨rfl, rfl⟩ : b = b' ∧ o = o' := by injection e' with e; injection e with e1 e2; exact ⟨e1, e2⟩
    exact hcl'
  have b0 : (w.alloc (.cells #[.int .i64 p.x, .int .i64 p.y] 23)).cell? ⟨w.heap.size, 0, none⟩ = some (.int .i64 p.x) := by go_simp
  have b1 : (w.alloc (.cells #[.int .i64 p.x, .int .i64 p.y] 23)).cell? ⟨w.heap.size, 1, none⟩ = some (.int .i64 p.y) := by go_simp
  have HB := Lib.hid (And.intro hL (And.intro b0 b1))
  have HC := Lib.hid hcl
  have HF := Lib.hid hF
  have HP := Lib.hid hp
  have hn0 : ((n : Int) == 0) = false := by simp; omega
  clear hcl hF hp hL b0 b1 hP
  go_enter Try.func22, Try.ntmps22
  go_wp2
  go_loopw [5, 6] (fun d i wr => (∃ k : Nat, k ≤ n ∧ i = .int .i64 k ∧ d = .bool (upX F n p k) ∧ ¬ onX F n p k) ∧ Below w.heap.size w wr ∧ w.heap.size < wr.heap.size ∧ wr.cell? ⟨w.heap.size, 0, none⟩ = some (.int .i64 p.x) ∧ wr.cell? ⟨w.heap.size, 1, none⟩ = some (.int .i64 p.y)) (fun _ i _ => n - (intOf i).toNat)
  case atStart => exact ⟨⟨0, by omega, rfl, rfl, fun ⟨k, hk, _⟩ => absurd hk (by omega)⟩, HB.out.1, by simp, HB.out.2.1, HB.out.2.2⟩
  case round =>
    obtain ⟨⟨k, hk, rfl, rfl, hno⟩, hBr, hzr, p0, p1⟩ := hrel
    have HNO := Lib.hid hno
    obtain ⟨wo, hwo⟩ : ∃ wo, wo = wr := ⟨_, rfl⟩
    subst hwo
    have HR := Lib.hid (And.intro hBr (And.intro hzr (And.intro p0 p1)))
    clear hno hBr hzr
    by_cases hlt : k < n
    · clear p0 p1
      obtain ⟨m, hm2⟩ : ∃ m, m = (k + 1) % n := ⟨_, rfl⟩
      have hml : m < n := by rw [hm2]; exact Nat.mod_lt _ (by omega)
      obtain ⟨f, hf⟩ : ∃ f, f = F k := ⟨_, rfl⟩
      obtain ⟨h, hh⟩ : ∃ h, h = F m := ⟨_, rfl⟩
      obtain ⟨z, hz⟩ : ∃ z, z = F 0 := ⟨_, rfl⟩
      have HE := Lib.hid (show edgeAt F n k = (f, h) by unfold edgeAt; rw [hf, hh, hm2])
      have HM3 := Lib.hid (show May3 f h p from ⟨by rw [hf]; exact HF.out k hlt, by rw [hh]; exact HF.out m hml, HP.out⟩)
      have HH := Lib.hid (And.intro hf (And.intro hh (And.intro hz hm2)))
      clear hf hh hz hm2
      go_upto_region 8 with (fail)
      go_cut [7, 8] from 14 to 67 (fun u1 u2 W => Two wo f z u1 u2 W)
      case first =>
        obtain ⟨hf, hh, hz, hm2⟩ := HH.out
        obtain ⟨x0, x1⟩ := HC.out k hlt
        obtain ⟨y0, y1⟩ := HC.out 0 h0
        rw [← hf] at x0 x1
        rw [← hz] at y0 y1
        rw [Nat.zero_mul, Nat.add_zero] at y0 y1
        have e0 := kp' HR.out.1 hb x0
        have e1 := kp' HR.out.1 hb x1
        have g0 := kp' HR.out.1 hb y0
        have g1 := kp' HR.out.1 hb y1
        have SB := Lib.hid (show Below wo.heap.size wo wo ∧ wo.cell? ⟨b, o + k * 2, none⟩ = some (.int .i64 f.x) ∧ wo.cell? ⟨b, o + k * 2 + 1, none⟩ = some (.int .i64 f.y) ∧ wo.cell? ⟨b, o, none⟩ = some (.int .i64 z.x) ∧ wo.cell? ⟨b, o + 1, none⟩ = some (.int .i64 z.y) from ⟨Below.refl _ _, e0, e1, g0, g1⟩)
        clear x0 x1 y0 y1 hf hz
        go_wp2_with fail
        go_region_held3 (fun W => Below wo.heap.size wo W ∧ W.cell? ⟨b, o + k * 2, none⟩ = some (.int .i64 f.x) ∧ W.cell? ⟨b, o + k * 2 + 1, none⟩ = some (.int .i64 f.y) ∧ W.cell? ⟨b, o, none⟩ = some (.int .i64 z.x) ∧ W.cell? ⟨b, o + 1, none⟩ = some (.int .i64 z.y)) (repeat (first | with_reducible assumption | with_reducible exact SB.out | with_reducible refine s5_alloc _ ?_ | with_reducible refine s5_drew ?_)) (fail)
        · have lW : Below wo.heap.size wo (((wo.alloc (.cells #[.int .i64 f.x, .int .i64 f.y] 23)).alloc (.cells #[.int .i64 z.x, .int .i64 z.y] 23)).drew) := (((Below.refl _ _).alloc (Nat.le_refl _) _).alloc (by simp) _).drew
          clear hm2 hh
          go_wp2_with fail
          go_meet
          refine ⟨_, _, ⟨rfl, rfl⟩, ⟨by omega, by omega, by omega, ⟨?_, ?_⟩, ?_, ?_⟩, lW, ⟨?_, ?_⟩, ?_, ?_⟩ <;> go_simp
        · have lW : Below wo.heap.size wo (((wo.alloc (.cells #[.int .i64 z.x, .int .i64 z.y] 23)).alloc (.cells #[.int .i64 f.x, .int .i64 f.y] 23)).drew) := (((Below.refl _ _).alloc (Nat.le_refl _) _).alloc (by simp) _).drew
          clear hm2 hh
          go_wp2_with fail
          go_meet
          refine ⟨_, _, ⟨rfl, rfl⟩, ⟨by omega, by omega, by omega, ⟨?_, ?_⟩, ?_, ?_⟩, lW, ⟨?_, ?_⟩, ?_, ?_⟩ <;> go_simp
      case rest =>
        obtain ⟨g1, g2, ⟨rfl, rfl⟩, ⟨hne, hg1, hg2, ⟨r0, r1⟩, r2, r3⟩, hl, ⟨t0, t1⟩, t2, t3⟩ := hcut
        have HL := Lib.hid hl
        have HT := Lib.hid (And.intro t0 (And.intro t1 (And.intro t2 t3)))
        clear hl
        go_upto_if 31 with (fail)
        go_cut [] from 14 to 67 (fun W => Below wo.heap.size wo W ∧ (W.cell? ⟨g1, 0, none⟩ = some (.int .i64 f.x) ∧ W.cell? ⟨g1, 1, none⟩ = some (.int .i64 f.y)) ∧ W.cell? ⟨g2, 0, none⟩ = some (.int .i64 h.x) ∧ W.cell? ⟨g2, 1, none⟩ = some (.int .i64 h.y))
        case first =>
          obtain ⟨_, q2, q3, q4⟩ := HH.out
          by_cases hl2 : k + 1 < n
          · obtain ⟨z0, z1⟩ := HC.out (k + 1) hl2
            have hm4 : m = k + 1 := by rw [q4, Nat.mod_eq_of_lt hl2]
            rw [← hm4, ← q2, hm4] at z0 z1
            have v0 := kp' HL.out (Nat.lt_of_lt_of_le hb HR.out.1.size) (kp' HR.out.1 hb z0)
            have v1 := kp' HL.out (Nat.lt_of_lt_of_le hb HR.out.1.size) (kp' HR.out.1 hb z1)
            clear z0 z1 hm4 q2 q3 q4
            go_wp2_with fail
            go_meet
            refine ⟨(HL.out.setCell (p := ⟨g2, 0, none⟩) hg2 _).setCell (p := ⟨g2, 1, none⟩) hg2 _, ⟨?_, ?_⟩, ?_, ?_⟩ <;> go_simp
          · have hm4 : z = h := by rw [q2, q3, q4, show k + 1 = n by omega, Nat.mod_self]
            clear q2 q3 q4
            subst hm4
            go_wp2_with fail
            go_meet
            exact ⟨HL.out, ⟨t0, t1⟩, t2, t3⟩
        case rest =>
          clear t0 t1 t2 t3 r0 r1 r2 r3 HT HL
          obtain ⟨wx, hwx⟩ : ∃ wx, wx = wc := ⟨_, rfl⟩
          subst hwx
          obtain ⟨hl, ⟨t0, t1⟩, t2, t3⟩ := hcut
          have hlt2 : w.heap.size < wo.heap.size := HR.out.2.1
          have p0 := kp' hl hlt2 HR.out.2.2.1
          have p1 := kp' hl hlt2 HR.out.2.2.2
          have HL := Lib.hid (And.intro hl (And.intro (And.intro t0 t1) (And.intro (And.intro t2 t3) (And.intro p0 p1))))
          clear hl
          have ko := fun W => refOn_any f h p HM3.out W
          cases ho : onB f h p
          · rw [ho] at ko
            have KO := Lib.hid ko
            have HO := Lib.hid ho
            clear ko ho
            go_wp2_with fail
            (with_reducible refine (KO.out _).mono ?_); rintro _ w2 ⟨rfl, l2⟩
            have HL2 := Lib.hid (And.intro (below2' HL.out.1 l2) (And.intro (And.intro (kp' l2 (cell_lt' t0) t0) (kp' l2 (cell_lt' t1) t1)) (And.intro (And.intro (kp' l2 (cell_lt' t2) t2) (kp' l2 (cell_lt' t3) t3)) (And.intro (kp' l2 (cell_lt' p0) p0) (kp' l2 (cell_lt' p1) p1)))))
            clear l2 HL t0 t1 t2 t3 p0 p1
            obtain ⟨_, ⟨t0, t1⟩, ⟨t2, t3⟩, p0, p1⟩ := HL2.out
            by_cases ha : p.x < f.x
            · have da : decide (p.x < f.x) = true := decide_eq_true ha
              by_cases hbx : p.x < h.x
              · have db : decide (p.x < h.x) = true := decide_eq_true hbx
                have HU := Lib.hid (show upB f h p = false by unfold upB; rw [if_pos (by simp; omega)])
                go_wp2
                go_roundw
                case rel => exact ⟨⟨k + 1, by omega, by go_num, by rw [upX_succ, HE.out]; show _ = Value.bool (upX F n p k != upB f h p); rw [HU.out]; cases upX F n p k <;> rfl, onX_succ HNO.out (by rw [HE.out]; exact HO.out)⟩, HR.out.1.trans (HL2.out.1.mono HR.out.1.size), Nat.lt_of_lt_of_le HR.out.2.1 (Nat.le_trans HL2.out.1.size (Nat.le_refl _)), HL2.out.2.2.2.1, HL2.out.2.2.2.2⟩
                case measure => simp [intOf]; omega
              · have db : decide (p.x < h.x) = false := decide_eq_false hbx
                have kt := fun W => refTurn_any h f p ⟨HM3.out.2.1, HM3.out.1, HM3.out.2.2⟩ W
                obtain ⟨t, ht⟩ : ∃ t, t = turnI h f p := ⟨_, rfl⟩
                rw [← ht] at kt
                have KT := Lib.hid kt
                have HUP := Lib.hid (show upB f h p = decide (t < 0) by rw [ht]; unfold upB; rw [if_neg (by simp; omega), if_pos (by omega)])
                clear kt ht
                go_upto_region 13 with (fail)
                go_cut [9, 10] from 14 to 67 (fun u1 u2 W => Two w2 f h u1 u2 W)
                case first =>
                  have SB2 := Lib.hid (show Below w2.heap.size w2 w2 ∧ w2.cell? ⟨g1, 0, none⟩ = some (.int .i64 f.x) ∧ w2.cell? ⟨g1, 0 + 1, none⟩ = some (.int .i64 f.y) ∧ w2.cell? ⟨g2, 0, none⟩ = some (.int .i64 h.x) ∧ w2.cell? ⟨g2, 0 + 1, none⟩ = some (.int .i64 h.y) from ⟨Below.refl _ _, t0, t1, t2, t3⟩)
                  go_wp2_with fail
                  go_region_held3 (fun W => Below w2.heap.size w2 W ∧ W.cell? ⟨g1, 0, none⟩ = some (.int .i64 f.x) ∧ W.cell? ⟨g1, 0 + 1, none⟩ = some (.int .i64 f.y) ∧ W.cell? ⟨g2, 0, none⟩ = some (.int .i64 h.x) ∧ W.cell? ⟨g2, 0 + 1, none⟩ = some (.int .i64 h.y)) (repeat (first | with_reducible assumption | with_reducible exact SB2.out | with_reducible refine s5_alloc _ ?_ | with_reducible refine s5_drew ?_)) (fail)
                  · have lW : Below w2.heap.size w2 (((w2.alloc (.cells #[.int .i64 f.x, .int .i64 f.y] 23)).alloc (.cells #[.int .i64 h.x, .int .i64 h.y] 23)).drew) := (((Below.refl _ _).alloc (Nat.le_refl _) _).alloc (by simp) _).drew
                    go_wp2_with fail
                    go_meet
                    refine ⟨_, _, ⟨rfl, rfl⟩, ⟨by omega, by omega, by omega, ⟨?_, ?_⟩, ?_, ?_⟩, lW, ⟨?_, ?_⟩, ?_, ?_⟩ <;> go_simp
                  · have lW : Below w2.heap.size w2 (((w2.alloc (.cells #[.int .i64 h.x, .int .i64 h.y] 23)).alloc (.cells #[.int .i64 f.x, .int .i64 f.y] 23)).drew) := (((Below.refl _ _).alloc (Nat.le_refl _) _).alloc (by simp) _).drew
                    go_wp2_with fail
                    go_meet
                    refine ⟨_, _, ⟨rfl, rfl⟩, ⟨by omega, by omega, by omega, ⟨?_, ?_⟩, ?_, ?_⟩, lW, ⟨?_, ?_⟩, ?_, ?_⟩ <;> go_simp
                case rest =>
                  obtain ⟨wy, hwy⟩ : ∃ wy, wy = wc := ⟨_, rfl⟩
                  subst hwy
                  obtain ⟨g3, g4, ⟨rfl, rfl⟩, ⟨hne2, hg3, hg4, ⟨r0, r1⟩, r2, r3⟩, hl3, ⟨y0, y1⟩, y2, y3⟩ := hcut
                  have L3 := Lib.hid hl3
                  have z0 := kp' hl3 (cell_lt' t0) t0
                  have z1 := kp' hl3 (cell_lt' t1) t1
                  have z2 := kp' hl3 (cell_lt' t2) t2
                  have z3 := kp' hl3 (cell_lt' t3) t3
                  have n1 : g1 < g3 := Nat.lt_of_lt_of_le (cell_lt' t0) hg3
                  have n2 : g1 < g4 := Nat.lt_of_lt_of_le (cell_lt' t0) hg4
                  have n3 : g2 < g3 := Nat.lt_of_lt_of_le (cell_lt' t2) hg3
                  have n4 : g2 < g4 := Nat.lt_of_lt_of_le (cell_lt' t2) hg4
                  have SB2 := Lib.hid (show Below w2.heap.size w2 wy ∧ wy.cell? ⟨g1, 0, none⟩ = some (.int .i64 f.x) ∧ wy.cell? ⟨g1, 0 + 1, none⟩ = some (.int .i64 f.y) ∧ wy.cell? ⟨g2, 0, none⟩ = some (.int .i64 h.x) ∧ wy.cell? ⟨g2, 0 + 1, none⟩ = some (.int .i64 h.y) from ⟨hl3, z0, z1, z2, z3⟩)
                  clear hl3
                  have hsw : h.x < f.x := by omega
                  have hswb : decide (h.x < f.x) = true := decide_eq_true hsw
                  go_wp2_with fail
                  go_region_held3 (fun W => Below w2.heap.size w2 W ∧ W.cell? ⟨g1, 0, none⟩ = some (.int .i64 f.x) ∧ W.cell? ⟨g1, 0 + 1, none⟩ = some (.int .i64 f.y) ∧ W.cell? ⟨g2, 0, none⟩ = some (.int .i64 h.x) ∧ W.cell? ⟨g2, 0 + 1, none⟩ = some (.int .i64 h.y)) (repeat (first | with_reducible assumption | with_reducible exact SB2.out | with_reducible refine s5_alloc _ ?_ | with_reducible refine s5_drew ?_ | with_reducible refine s5_put ?_ (by with_reducible assumption) (by with_reducible assumption) (by with_reducible assumption))) (fail)
                  have lS : Below w2.heap.size w2 (((((wy.setCell ⟨g3, 0, none⟩ (.int .i64 h.x)).setCell ⟨g3, 1, none⟩ (.int .i64 h.y)).setCell ⟨g4, 0, none⟩ (.int .i64 f.x)).setCell ⟨g4, 1, none⟩ (.int .i64 f.y)).drew) := ((((L3.out.setCell (p := ⟨g3, 0, none⟩) hg3 _).setCell (p := ⟨g3, 1, none⟩) hg3 _).setCell (p := ⟨g4, 0, none⟩) hg4 _).setCell (p := ⟨g4, 1, none⟩) hg4 _).drew
                  have s0 : (((((wy.setCell ⟨g3, 0, none⟩ (.int .i64 h.x)).setCell ⟨g3, 1, none⟩ (.int .i64 h.y)).setCell ⟨g4, 0, none⟩ (.int .i64 f.x)).setCell ⟨g4, 1, none⟩ (.int .i64 f.y)).drew).cell? ⟨g3, 0, none⟩ = some (.int .i64 h.x) := by go_simp
                  have s1 : (((((wy.setCell ⟨g3, 0, none⟩ (.int .i64 h.x)).setCell ⟨g3, 1, none⟩ (.int .i64 h.y)).setCell ⟨g4, 0, none⟩ (.int .i64 f.x)).setCell ⟨g4, 1, none⟩ (.int .i64 f.y)).drew).cell? ⟨g3, 1, none⟩ = some (.int .i64 h.y) := by go_simp
                  have s2 : (((((wy.setCell ⟨g3, 0, none⟩ (.int .i64 h.x)).setCell ⟨g3, 1, none⟩ (.int .i64 h.y)).setCell ⟨g4, 0, none⟩ (.int .i64 f.x)).setCell ⟨g4, 1, none⟩ (.int .i64 f.y)).drew).cell? ⟨g4, 0, none⟩ = some (.int .i64 f.x) := by go_simp
                  have s3 : (((((wy.setCell ⟨g3, 0, none⟩ (.int .i64 h.x)).setCell ⟨g3, 1, none⟩ (.int .i64 h.y)).setCell ⟨g4, 0, none⟩ (.int .i64 f.x)).setCell ⟨g4, 1, none⟩ (.int .i64 f.y)).drew).cell? ⟨g4, 1, none⟩ = some (.int .i64 f.y) := by go_simp
                  generalize (((((wy.setCell ⟨g3, 0, none⟩ (.int .i64 h.x)).setCell ⟨g3, 1, none⟩ (.int .i64 h.y)).setCell ⟨g4, 0, none⟩ (.int .i64 f.x)).setCell ⟨g4, 1, none⟩ (.int .i64 f.y)).drew) = wz at lS s0 s1 s2 s3 ⊢
                  have pa := kp' lS (cell_lt' HL2.out.2.2.2.1) HL2.out.2.2.2.1
                  have pb := kp' lS (cell_lt' HL2.out.2.2.2.2) HL2.out.2.2.2.2
                  have LY := Lib.hid lS
                  clear lS
                  go_wp2_with fail
                  (with_reducible refine (KT.out _).mono ?_); rintro _ w6 ⟨rfl, l6⟩
                  have L6 := Lib.hid (below2' LY.out l6)
                  have pc := Lib.hid (And.intro (kp' l6 (cell_lt' pa) pa) (kp' l6 (cell_lt' pb) pb))
                  clear l6 pa pb LY
                  by_cases ht : t < 0
                  · have HU := Lib.hid (show upB f h p = true by rw [HUP.out]; exact decide_eq_true ht)
                    go_wp2
                    go_roundw
                    case rel => exact ⟨⟨k + 1, by omega, by go_num, by rw [upX_succ, HE.out]; show _ = Value.bool (upX F n p k != upB f h p); rw [HU.out]; cases upX F n p k <;> rfl, onX_succ HNO.out (by rw [HE.out]; exact HO.out)⟩, HR.out.1.trans ((HL2.out.1.trans (L6.out.mono HL2.out.1.size)).mono HR.out.1.size), Nat.lt_of_lt_of_le HR.out.2.1 (Nat.le_trans HL2.out.1.size L6.out.size), pc.out.1, pc.out.2⟩
                    case measure => simp [intOf]; omega
                  · have HU := Lib.hid (show upB f h p = false by rw [HUP.out]; exact decide_eq_false ht)
                    go_wp2
                    go_roundw
                    case rel => exact ⟨⟨k + 1, by omega, by go_num, by rw [upX_succ, HE.out]; show _ = Value.bool (upX F n p k != upB f h p); rw [HU.out]; cases upX F n p k <;> rfl, onX_succ HNO.out (by rw [HE.out]; exact HO.out)⟩, HR.out.1.trans ((HL2.out.1.trans (L6.out.mono HL2.out.1.size)).mono HR.out.1.size), Nat.lt_of_lt_of_le HR.out.2.1 (Nat.le_trans HL2.out.1.size L6.out.size), pc.out.1, pc.out.2⟩
                    case measure => simp [intOf]; omega
            · have da : decide (p.x < f.x) = false := decide_eq_false ha
              by_cases hbx : p.x < h.x
              · have db : decide (p.x < h.x) = true := decide_eq_true hbx
                have kt := fun W => refTurn_any f h p HM3.out W
                obtain ⟨t, ht⟩ : ∃ t, t = turnI f h p := ⟨_, rfl⟩
                rw [← ht] at kt
                have KT := Lib.hid kt
                have HUP := Lib.hid (show upB f h p = decide (t < 0) by rw [ht]; unfold upB; rw [if_neg (by simp; omega), if_neg (by omega)])
                clear kt ht
                go_upto_region 13 with (fail)
                go_cut [9, 10] from 14 to 67 (fun u1 u2 W => Two w2 f h u1 u2 W)
                case first =>
                  have SB2 := Lib.hid (show Below w2.heap.size w2 w2 ∧ w2.cell? ⟨g1, 0, none⟩ = some (.int .i64 f.x) ∧ w2.cell? ⟨g1, 0 + 1, none⟩ = some (.int .i64 f.y) ∧ w2.cell? ⟨g2, 0, none⟩ = some (.int .i64 h.x) ∧ w2.cell? ⟨g2, 0 + 1, none⟩ = some (.int .i64 h.y) from ⟨Below.refl _ _, t0, t1, t2, t3⟩)
                  go_wp2_with fail
                  go_region_held3 (fun W => Below w2.heap.size w2 W ∧ W.cell? ⟨g1, 0, none⟩ = some (.int .i64 f.x) ∧ W.cell? ⟨g1, 0 + 1, none⟩ = some (.int .i64 f.y) ∧ W.cell? ⟨g2, 0, none⟩ = some (.int .i64 h.x) ∧ W.cell? ⟨g2, 0 + 1, none⟩ = some (.int .i64 h.y)) (repeat (first | with_reducible assumption | with_reducible exact SB2.out | with_reducible refine s5_alloc _ ?_ | with_reducible refine s5_drew ?_)) (fail)
                  · have lW : Below w2.heap.size w2 (((w2.alloc (.cells #[.int .i64 f.x, .int .i64 f.y] 23)).alloc (.cells #[.int .i64 h.x, .int .i64 h.y] 23)).drew) := (((Below.refl _ _).alloc (Nat.le_refl _) _).alloc (by simp) _).drew
                    go_wp2_with fail
                    go_meet
                    refine ⟨_, _, ⟨rfl, rfl⟩, ⟨by omega, by omega, by omega, ⟨?_, ?_⟩, ?_, ?_⟩, lW, ⟨?_, ?_⟩, ?_, ?_⟩ <;> go_simp
                  · have lW : Below w2.heap.size w2 (((w2.alloc (.cells #[.int .i64 h.x, .int .i64 h.y] 23)).alloc (.cells #[.int .i64 f.x, .int .i64 f.y] 23)).drew) := (((Below.refl _ _).alloc (Nat.le_refl _) _).alloc (by simp) _).drew
                    go_wp2_with fail
                    go_meet
                    refine ⟨_, _, ⟨rfl, rfl⟩, ⟨by omega, by omega, by omega, ⟨?_, ?_⟩, ?_, ?_⟩, lW, ⟨?_, ?_⟩, ?_, ?_⟩ <;> go_simp
                case rest =>
                  obtain ⟨wy, hwy⟩ : ∃ wy, wy = wc := ⟨_, rfl⟩
                  subst hwy
                  obtain ⟨g3, g4, ⟨rfl, rfl⟩, ⟨hne2, hg3, hg4, ⟨r0, r1⟩, r2, r3⟩, hl3, ⟨y0, y1⟩, y2, y3⟩ := hcut
                  have L3 := Lib.hid hl3
                  have z0 := kp' hl3 (cell_lt' t0) t0
                  have z1 := kp' hl3 (cell_lt' t1) t1
                  have z2 := kp' hl3 (cell_lt' t2) t2
                  have z3 := kp' hl3 (cell_lt' t3) t3
                  clear hl3
                  have hns : ¬ h.x < f.x := by omega
                  have hswb : decide (h.x < f.x) = false := decide_eq_false hns
                  have pa := kp' L3.out (cell_lt' HL2.out.2.2.2.1) HL2.out.2.2.2.1
                  have pb := kp' L3.out (cell_lt' HL2.out.2.2.2.2) HL2.out.2.2.2.2
                  have LY := Lib.hid L3.out
                  go_wp2_with fail
                  (with_reducible refine (KT.out _).mono ?_); rintro _ w6 ⟨rfl, l6⟩
                  have L6 := Lib.hid (below2' LY.out l6)
                  have pc := Lib.hid (And.intro (kp' l6 (cell_lt' pa) pa) (kp' l6 (cell_lt' pb) pb))
                  clear l6 pa pb LY
                  by_cases ht : t < 0
                  · have HU := Lib.hid (show upB f h p = true by rw [HUP.out]; exact decide_eq_true ht)
                    go_wp2
                    go_roundw
                    case rel => exact ⟨⟨k + 1, by omega, by go_num, by rw [upX_succ, HE.out]; show _ = Value.bool (upX F n p k != upB f h p); rw [HU.out]; cases upX F n p k <;> rfl, onX_succ HNO.out (by rw [HE.out]; exact HO.out)⟩, HR.out.1.trans ((HL2.out.1.trans (L6.out.mono HL2.out.1.size)).mono HR.out.1.size), Nat.lt_of_lt_of_le HR.out.2.1 (Nat.le_trans HL2.out.1.size L6.out.size), pc.out.1, pc.out.2⟩
                    case measure => simp [intOf]; omega
                  · have HU := Lib.hid (show upB f h p = false by rw [HUP.out]; exact decide_eq_false ht)
                    go_wp2
                    go_roundw
                    case rel => exact ⟨⟨k + 1, by omega, by go_num, by rw [upX_succ, HE.out]; show _ = Value.bool (upX F n p k != upB f h p); rw [HU.out]; cases upX F n p k <;> rfl, onX_succ HNO.out (by rw [HE.out]; exact HO.out)⟩, HR.out.1.trans ((HL2.out.1.trans (L6.out.mono HL2.out.1.size)).mono HR.out.1.size), Nat.lt_of_lt_of_le HR.out.2.1 (Nat.le_trans HL2.out.1.size L6.out.size), pc.out.1, pc.out.2⟩
                    case measure => simp [intOf]; omega
              · have db : decide (p.x < h.x) = false := decide_eq_false hbx
                have HU := Lib.hid (show upB f h p = false by unfold upB; rw [if_pos (by simp; omega)])
                go_wp2
                go_roundw
                case rel => exact ⟨⟨k + 1, by omega, by go_num, by rw [upX_succ, HE.out]; show _ = Value.bool (upX F n p k != upB f h p); rw [HU.out]; cases upX F n p k <;> rfl, onX_succ HNO.out (by rw [HE.out]; exact HO.out)⟩, HR.out.1.trans (HL2.out.1.mono HR.out.1.size), Nat.lt_of_lt_of_le HR.out.2.1 (Nat.le_trans HL2.out.1.size (Nat.le_refl _)), HL2.out.2.2.2.1, HL2.out.2.2.2.2⟩
                case measure => simp [intOf]; omega
          · rw [ho] at ko
            have KO := Lib.hid ko
            have HI := Lib.hid (ref_on (F := F) (n := n) (k := k) (p := p) hlt (by rw [HE.out]; exact ho))
            clear ko ho
            go_wp2_with fail
            (with_reducible refine (KO.out _).mono ?_); rintro _ w2 ⟨rfl, l2⟩
            have L2 := Lib.hid (HR.out.1.trans ((HL.out.1.trans (l2.mono HL.out.1.size)).mono HR.out.1.size))
            clear l2
            go_wp2
            go_ret
            exact ⟨by rw [HI.out]; rfl, L2.out⟩
    · obtain rfl : k = n := by omega
      have HE := Lib.hid (ref_end h0 HF.out HP.out HNO.out)
      cases hu : upX F k p k
      · rw [hu] at HE
        have HX := Lib.hid (show insideI F k p = -1 from HE.out)
        clear hu HE
        go_wp2
        go_ret
        exact ⟨by rw [HX.out]; rfl, HR.out.1⟩
      · rw [hu] at HE
        have HX := Lib.hid (show insideI F k p = 1 from HE.out)
        clear hu HE
        go_wp2
        go_ret
        exact ⟨by rw [HX.out]; rfl, HR.out.1⟩
end Go.Proofs.Ytlkdjpidofnhdaa
