/- HashBack: the walk. -/
import Derived.Test.YtlkdjpidofnhdaaDoorHRef2
import Derived.ChangeKeysEq
namespace Go.Proofs.YtlkdjpidofnhdaaDoor
open Go.RowKit
set_option linter.unusedVariables false

theorem place_code {p : Pt} (h : MayP p) : placeP (codeV p) = p := by
  have hb := h
  unfold MayP at hb
  unfold codeV codeN placeP
  rw [if_pos h, gather_x, gather_y, Nat.mod_eq_of_lt (by omega), Nat.mod_eq_of_lt (by omega)]
  obtain ⟨x, y⟩ := p
  dsimp only at *
  congr 1 <;> omega
theorem placeV_code {p : Pt} (h : MayP p) : placeV (codeV p) = p := by
  unfold placeV
  rw [place_code h, if_pos h]
theorem code_inj {p q : Pt} (hp : MayP p) (hq : MayP q) (h : codeV p = codeV q) : p = q := by
  rw [← place_code hp, h, place_code hq]
theorem code_place {n : Nat} (hn : n < 18446744073709551616) (h : MayP (placeP n)) : codeV (placeV n) = n := by
  have g1 := Gb_lt (n / 2) 32
  have g2 := Gb_lt n 32
  unfold placeV
  rw [if_pos h]
  unfold codeV
  rw [if_pos h]
  unfold codeN placeP
  dsimp only
  rw [show (((Gb (n / 2) 32 : Nat) : Int) - 1800000000 + 1800000000).toNat = Gb (n / 2) 32 by omega, show (((Gb n 32 : Nat) : Int) - 900000000 + 900000000).toNat = Gb n 32 by omega, mix_gather, Nat.mod_eq_of_lt hn]
def Code_ (p : Pt) (a : Nat) (ok : Bool) : Prop := ∀ W, MaskT W → Calls Tryd.prog 8 #[.agg #[.int .i64 p.x, .int .i64 p.y]] W fun e w' => e = .returned (.tuple #[.int .u64 a, .bool ok]) ∧ Below W.heap.size W w'
def Place_ (n : Nat) (t : Pt) (here : Bool) : Prop := ∀ W, MaskT W → Calls Tryd.prog 10 #[.int .u64 n] W fun e w' => e = .returned (.tuple #[.agg #[.int .i64 t.x, .int .i64 t.y], .bool here]) ∧ Below W.heap.size W w'
def May_ (p : Pt) (m : Bool) : Prop := ∀ W, Calls Tryd.prog 15 #[.agg #[.int .i64 p.x, .int .i64 p.y]] W fun e w' => e = .returned (.bool m) ∧ Below W.heap.size W w'
theorem Code_.run {p : Pt} {a : Nat} {ok : Bool} (h : Code_ p a ok) (W : World) (hm : MaskT W) : Calls Tryd.prog 8 #[.agg #[.int .i64 p.x, .int .i64 p.y]] W fun e w' => e = .returned (.tuple #[.int .u64 a, .bool ok]) ∧ Below W.heap.size W w' := h W hm
theorem Place_.run {n : Nat} {t : Pt} {here : Bool} (h : Place_ n t here) (W : World) (hm : MaskT W) : Calls Tryd.prog 10 #[.int .u64 n] W fun e w' => e = .returned (.tuple #[.agg #[.int .i64 t.x, .int .i64 t.y], .bool here]) ∧ Below W.heap.size W w' := h W hm
theorem May_.run {p : Pt} {m : Bool} (h : May_ p m) (W : World) : Calls Tryd.prog 15 #[.agg #[.int .i64 p.x, .int .i64 p.y]] W fun e w' => e = .returned (.bool m) ∧ Below W.heap.size W w' := h W

set_option maxRecDepth 100000 in
set_option maxHeartbeats 1600000 in
theorem back_eqt (p q : Pt) (n a b c : Nat) (s t : Pt) (isb there may : Bool) (K1 : Code_ p a true) (K2 : Code_ q b true) (K3 : May_ p true) (K4 : Place_ a p true) (K5 : Place_ n t true) (K6 : Code_ t n true) (e1 : ((a : Int) == b) = true) (e2 : (p.x == q.x) = true) (e3 : (p.y == q.y) = true) (w : World) (HM : Hid (MaskT w)) :
    Calls Tryd.prog 5 #[.agg #[.int .i64 p.x, .int .i64 p.y], .agg #[.int .i64 q.x, .int .i64 q.y], .int .u64 n] w fun e w' => e = .returned (.bool true) ∧ Below w.heap.size w w' := by
  have H5 := Lib.hid awake_any
  go_enter Tryd.func5, Tryd.ntmps5
  have L0 := Lib.hid ((((Below.refl w.heap.size w).alloc (Nat.le_refl _) (.cells #[.int .i64 p.x, .int .i64 p.y] 23))).alloc (by simp) (.cells #[.int .i64 q.x, .int .i64 q.y] 23))
  go_wp2_with fail
  (with_reducible refine (K1.run _ (HM.out.below L0.out)).mono ?_); rintro _ w1 ⟨rfl, l1⟩
  have L1 := Lib.hid (L0.out.trans (l1.mono (by simp; omega)))
  obtain ⟨hc, hf⟩ := bcell l1
  have c0 : w1.cell? ⟨w.heap.size, 0, none⟩ = some (.int .i64 p.x) := by go_simp
  have c1 : w1.cell? ⟨w.heap.size, 1, none⟩ = some (.int .i64 p.y) := by go_simp
  have c2 : w1.cell? ⟨w.heap.size + 1, 0, none⟩ = some (.int .i64 q.x) := by go_simp
  have c3 : w1.cell? ⟨w.heap.size + 1, 1, none⟩ = some (.int .i64 q.y) := by go_simp
  clear l1 hc hf
  go_wp2_with fail
  (with_reducible refine (K2.run _ (HM.out.below L1.out)).mono ?_); rintro _ w2 ⟨rfl, l2⟩
  have L2 := Lib.hid (below2' L1.out l2)
  have d0 := kp' l2 (cell_lt' c0) c0
  have d1 := kp' l2 (cell_lt' c1) c1
  have d2 := kp' l2 (cell_lt' c2) c2
  have d3 := kp' l2 (cell_lt' c3) c3
  clear l2 c0 c1 c2 c3
  go_wp2_with fail
  (with_reducible refine (K3.run _).mono ?_); rintro _ w3 ⟨rfl, l3⟩
  have L3 := Lib.hid (below2' L2.out l3)
  have c0 := kp' l3 (cell_lt' d0) d0
  have c1 := kp' l3 (cell_lt' d1) d1
  have c2 := kp' l3 (cell_lt' d2) d2
  have c3 := kp' l3 (cell_lt' d3) d3
  clear l3 d0 d1 d2 d3
  go_wp2_with fail
  (with_reducible refine (K4.run _ (HM.out.below L3.out)).mono ?_); rintro _ w4 ⟨rfl, l4⟩
  have hz3 : w.heap.size ≤ w3.heap.size := L3.out.size
  have L4 := Lib.hid (below2' L3.out l4)
  have d0 := kp' l4 (cell_lt' c0) c0
  have d1 := kp' l4 (cell_lt' c1) c1
  have lt := cell_lt' d0
  clear l4 c0 c1 c2 c3
  have hz4 : w.heap.size ≤ w4.heap.size := L4.out.size
  have L5 := Lib.hid (L4.out.alloc hz4 (.cells #[.int .i64 p.x, .int .i64 p.y] 23))
  go_wp2_with fail
  (with_reducible refine (K5.run _ (HM.out.below L5.out)).mono ?_); rintro _ w5 ⟨rfl, l5⟩
  have L6 := Lib.hid (L5.out.trans (l5.mono (by simp; omega)))
  clear l5
  have hz5 : w.heap.size ≤ w5.heap.size := L6.out.size
  have L7 := Lib.hid (L6.out.alloc hz5 (.cells #[.int .i64 t.x, .int .i64 t.y] 23))
  go_wp2_with fail
  (with_reducible refine (K6.run _ (HM.out.below L7.out)).mono ?_); rintro _ w6 ⟨rfl, l6⟩
  have L8 := Lib.hid (L7.out.trans (l6.mono (by simp; omega)))
  clear l6
  go_wp2_with fail
  (with_reducible refine (H5.out _ (HM.out.below L8.out)).mono ?_); rintro _ w7 ⟨rfl, l7⟩
  have L9 := Lib.hid (below2' L8.out l7)
  clear l7
  go_wp2
  go_ret
  exact ⟨rfl, L9.out⟩
set_option maxRecDepth 100000 in
set_option maxHeartbeats 1600000 in
theorem back_eqf (p q : Pt) (n a b c : Nat) (s t : Pt) (isb there may : Bool) (K1 : Code_ p a true) (K2 : Code_ q b true) (K3 : May_ p true) (K4 : Place_ a p true) (K5 : Place_ n t false) (K6 : Code_ t c may) (e1 : ((a : Int) == b) = true) (e2 : (p.x == q.x) = true) (e3 : (p.y == q.y) = true) (w : World) (HM : Hid (MaskT w)) :
    Calls Tryd.prog 5 #[.agg #[.int .i64 p.x, .int .i64 p.y], .agg #[.int .i64 q.x, .int .i64 q.y], .int .u64 n] w fun e w' => e = .returned (.bool true) ∧ Below w.heap.size w w' := by
  have H5 := Lib.hid awake_any
  go_enter Tryd.func5, Tryd.ntmps5
  have L0 := Lib.hid ((((Below.refl w.heap.size w).alloc (Nat.le_refl _) (.cells #[.int .i64 p.x, .int .i64 p.y] 23))).alloc (by simp) (.cells #[.int .i64 q.x, .int .i64 q.y] 23))
  go_wp2_with fail
  (with_reducible refine (K1.run _ (HM.out.below L0.out)).mono ?_); rintro _ w1 ⟨rfl, l1⟩
  have L1 := Lib.hid (L0.out.trans (l1.mono (by simp; omega)))
  obtain ⟨hc, hf⟩ := bcell l1
  have c0 : w1.cell? ⟨w.heap.size, 0, none⟩ = some (.int .i64 p.x) := by go_simp
  have c1 : w1.cell? ⟨w.heap.size, 1, none⟩ = some (.int .i64 p.y) := by go_simp
  have c2 : w1.cell? ⟨w.heap.size + 1, 0, none⟩ = some (.int .i64 q.x) := by go_simp
  have c3 : w1.cell? ⟨w.heap.size + 1, 1, none⟩ = some (.int .i64 q.y) := by go_simp
  clear l1 hc hf
  go_wp2_with fail
  (with_reducible refine (K2.run _ (HM.out.below L1.out)).mono ?_); rintro _ w2 ⟨rfl, l2⟩
  have L2 := Lib.hid (below2' L1.out l2)
  have d0 := kp' l2 (cell_lt' c0) c0
  have d1 := kp' l2 (cell_lt' c1) c1
  have d2 := kp' l2 (cell_lt' c2) c2
  have d3 := kp' l2 (cell_lt' c3) c3
  clear l2 c0 c1 c2 c3
  go_wp2_with fail
  (with_reducible refine (K3.run _).mono ?_); rintro _ w3 ⟨rfl, l3⟩
  have L3 := Lib.hid (below2' L2.out l3)
  have c0 := kp' l3 (cell_lt' d0) d0
  have c1 := kp' l3 (cell_lt' d1) d1
  have c2 := kp' l3 (cell_lt' d2) d2
  have c3 := kp' l3 (cell_lt' d3) d3
  clear l3 d0 d1 d2 d3
  go_wp2_with fail
  (with_reducible refine (K4.run _ (HM.out.below L3.out)).mono ?_); rintro _ w4 ⟨rfl, l4⟩
  have hz3 : w.heap.size ≤ w3.heap.size := L3.out.size
  have L4 := Lib.hid (below2' L3.out l4)
  have d0 := kp' l4 (cell_lt' c0) c0
  have d1 := kp' l4 (cell_lt' c1) c1
  have lt := cell_lt' d0
  clear l4 c0 c1 c2 c3
  have hz4 : w.heap.size ≤ w4.heap.size := L4.out.size
  have L5 := Lib.hid (L4.out.alloc hz4 (.cells #[.int .i64 p.x, .int .i64 p.y] 23))
  go_wp2_with fail
  (with_reducible refine (K5.run _ (HM.out.below L5.out)).mono ?_); rintro _ w5 ⟨rfl, l5⟩
  have L6 := Lib.hid (L5.out.trans (l5.mono (by simp; omega)))
  clear l5
  have hz5 : w.heap.size ≤ w5.heap.size := L6.out.size
  have L7 := Lib.hid (L6.out.alloc hz5 (.cells #[.int .i64 t.x, .int .i64 t.y] 23))
  go_wp2_with fail
  (with_reducible refine (K6.run _ (HM.out.below L7.out)).mono ?_); rintro _ w6 ⟨rfl, l6⟩
  have L8 := Lib.hid (L7.out.trans (l6.mono (by simp; omega)))
  clear l6
  go_wp2_with fail
  (with_reducible refine (H5.out _ (HM.out.below L8.out)).mono ?_); rintro _ w7 ⟨rfl, l7⟩
  have L9 := Lib.hid (below2' L8.out l7)
  clear l7
  go_wp2
  go_ret
  exact ⟨rfl, L9.out⟩
set_option maxRecDepth 100000 in
set_option maxHeartbeats 1600000 in
theorem back_nxt (p q : Pt) (n a b c : Nat) (s t : Pt) (isb there may : Bool) (K1 : Code_ p a true) (K2 : Code_ q b true) (K3 : May_ p true) (K4 : Place_ a p true) (K5 : Place_ n t true) (K6 : Code_ t n true) (e1 : ((a : Int) == b) = false) (e2 : (p.x == q.x) = false) (w : World) (HM : Hid (MaskT w)) :
    Calls Tryd.prog 5 #[.agg #[.int .i64 p.x, .int .i64 p.y], .agg #[.int .i64 q.x, .int .i64 q.y], .int .u64 n] w fun e w' => e = .returned (.bool true) ∧ Below w.heap.size w w' := by
  have H5 := Lib.hid awake_any
  go_enter Tryd.func5, Tryd.ntmps5
  have L0 := Lib.hid ((((Below.refl w.heap.size w).alloc (Nat.le_refl _) (.cells #[.int .i64 p.x, .int .i64 p.y] 23))).alloc (by simp) (.cells #[.int .i64 q.x, .int .i64 q.y] 23))
  go_wp2_with fail
  (with_reducible refine (K1.run _ (HM.out.below L0.out)).mono ?_); rintro _ w1 ⟨rfl, l1⟩
  have L1 := Lib.hid (L0.out.trans (l1.mono (by simp; omega)))
  obtain ⟨hc, hf⟩ := bcell l1
  have c0 : w1.cell? ⟨w.heap.size, 0, none⟩ = some (.int .i64 p.x) := by go_simp
  have c1 : w1.cell? ⟨w.heap.size, 1, none⟩ = some (.int .i64 p.y) := by go_simp
  have c2 : w1.cell? ⟨w.heap.size + 1, 0, none⟩ = some (.int .i64 q.x) := by go_simp
  have c3 : w1.cell? ⟨w.heap.size + 1, 1, none⟩ = some (.int .i64 q.y) := by go_simp
  clear l1 hc hf
  go_wp2_with fail
  (with_reducible refine (K2.run _ (HM.out.below L1.out)).mono ?_); rintro _ w2 ⟨rfl, l2⟩
  have L2 := Lib.hid (below2' L1.out l2)
  have d0 := kp' l2 (cell_lt' c0) c0
  have d1 := kp' l2 (cell_lt' c1) c1
  have d2 := kp' l2 (cell_lt' c2) c2
  have d3 := kp' l2 (cell_lt' c3) c3
  clear l2 c0 c1 c2 c3
  go_wp2_with fail
  (with_reducible refine (K3.run _).mono ?_); rintro _ w3 ⟨rfl, l3⟩
  have L3 := Lib.hid (below2' L2.out l3)
  have c0 := kp' l3 (cell_lt' d0) d0
  have c1 := kp' l3 (cell_lt' d1) d1
  have c2 := kp' l3 (cell_lt' d2) d2
  have c3 := kp' l3 (cell_lt' d3) d3
  clear l3 d0 d1 d2 d3
  go_wp2_with fail
  (with_reducible refine (K4.run _ (HM.out.below L3.out)).mono ?_); rintro _ w4 ⟨rfl, l4⟩
  have hz3 : w.heap.size ≤ w3.heap.size := L3.out.size
  have L4 := Lib.hid (below2' L3.out l4)
  have d0 := kp' l4 (cell_lt' c0) c0
  have d1 := kp' l4 (cell_lt' c1) c1
  have lt := cell_lt' d0
  clear l4 c0 c1 c2 c3
  have hz4 : w.heap.size ≤ w4.heap.size := L4.out.size
  have L5 := Lib.hid (L4.out.alloc hz4 (.cells #[.int .i64 p.x, .int .i64 p.y] 23))
  go_wp2_with fail
  (with_reducible refine (K5.run _ (HM.out.below L5.out)).mono ?_); rintro _ w5 ⟨rfl, l5⟩
  have L6 := Lib.hid (L5.out.trans (l5.mono (by simp; omega)))
  clear l5
  have hz5 : w.heap.size ≤ w5.heap.size := L6.out.size
  have L7 := Lib.hid (L6.out.alloc hz5 (.cells #[.int .i64 t.x, .int .i64 t.y] 23))
  go_wp2_with fail
  (with_reducible refine (K6.run _ (HM.out.below L7.out)).mono ?_); rintro _ w6 ⟨rfl, l6⟩
  have L8 := Lib.hid (L7.out.trans (l6.mono (by simp; omega)))
  clear l6
  go_wp2_with fail
  (with_reducible refine (H5.out _ (HM.out.below L8.out)).mono ?_); rintro _ w7 ⟨rfl, l7⟩
  have L9 := Lib.hid (below2' L8.out l7)
  clear l7
  go_wp2
  go_ret
  exact ⟨rfl, L9.out⟩
set_option maxRecDepth 100000 in
set_option maxHeartbeats 1600000 in
theorem back_nxf (p q : Pt) (n a b c : Nat) (s t : Pt) (isb there may : Bool) (K1 : Code_ p a true) (K2 : Code_ q b true) (K3 : May_ p true) (K4 : Place_ a p true) (K5 : Place_ n t false) (K6 : Code_ t c may) (e1 : ((a : Int) == b) = false) (e2 : (p.x == q.x) = false) (w : World) (HM : Hid (MaskT w)) :
    Calls Tryd.prog 5 #[.agg #[.int .i64 p.x, .int .i64 p.y], .agg #[.int .i64 q.x, .int .i64 q.y], .int .u64 n] w fun e w' => e = .returned (.bool true) ∧ Below w.heap.size w w' := by
  have H5 := Lib.hid awake_any
  go_enter Tryd.func5, Tryd.ntmps5
  have L0 := Lib.hid ((((Below.refl w.heap.size w).alloc (Nat.le_refl _) (.cells #[.int .i64 p.x, .int .i64 p.y] 23))).alloc (by simp) (.cells #[.int .i64 q.x, .int .i64 q.y] 23))
  go_wp2_with fail
  (with_reducible refine (K1.run _ (HM.out.below L0.out)).mono ?_); rintro _ w1 ⟨rfl, l1⟩
  have L1 := Lib.hid (L0.out.trans (l1.mono (by simp; omega)))
  obtain ⟨hc, hf⟩ := bcell l1
  have c0 : w1.cell? ⟨w.heap.size, 0, none⟩ = some (.int .i64 p.x) := by go_simp
  have c1 : w1.cell? ⟨w.heap.size, 1, none⟩ = some (.int .i64 p.y) := by go_simp
  have c2 : w1.cell? ⟨w.heap.size + 1, 0, none⟩ = some (.int .i64 q.x) := by go_simp
  have c3 : w1.cell? ⟨w.heap.size + 1, 1, none⟩ = some (.int .i64 q.y) := by go_simp
  clear l1 hc hf
  go_wp2_with fail
  (with_reducible refine (K2.run _ (HM.out.below L1.out)).mono ?_); rintro _ w2 ⟨rfl, l2⟩
  have L2 := Lib.hid (below2' L1.out l2)
  have d0 := kp' l2 (cell_lt' c0) c0
  have d1 := kp' l2 (cell_lt' c1) c1
  have d2 := kp' l2 (cell_lt' c2) c2
  have d3 := kp' l2 (cell_lt' c3) c3
  clear l2 c0 c1 c2 c3
  go_wp2_with fail
  (with_reducible refine (K3.run _).mono ?_); rintro _ w3 ⟨rfl, l3⟩
  have L3 := Lib.hid (below2' L2.out l3)
  have c0 := kp' l3 (cell_lt' d0) d0
  have c1 := kp' l3 (cell_lt' d1) d1
  have c2 := kp' l3 (cell_lt' d2) d2
  have c3 := kp' l3 (cell_lt' d3) d3
  clear l3 d0 d1 d2 d3
  go_wp2_with fail
  (with_reducible refine (K4.run _ (HM.out.below L3.out)).mono ?_); rintro _ w4 ⟨rfl, l4⟩
  have hz3 : w.heap.size ≤ w3.heap.size := L3.out.size
  have L4 := Lib.hid (below2' L3.out l4)
  have d0 := kp' l4 (cell_lt' c0) c0
  have d1 := kp' l4 (cell_lt' c1) c1
  have lt := cell_lt' d0
  clear l4 c0 c1 c2 c3
  have hz4 : w.heap.size ≤ w4.heap.size := L4.out.size
  have L5 := Lib.hid (L4.out.alloc hz4 (.cells #[.int .i64 p.x, .int .i64 p.y] 23))
  go_wp2_with fail
  (with_reducible refine (K5.run _ (HM.out.below L5.out)).mono ?_); rintro _ w5 ⟨rfl, l5⟩
  have L6 := Lib.hid (L5.out.trans (l5.mono (by simp; omega)))
  clear l5
  have hz5 : w.heap.size ≤ w5.heap.size := L6.out.size
  have L7 := Lib.hid (L6.out.alloc hz5 (.cells #[.int .i64 t.x, .int .i64 t.y] 23))
  go_wp2_with fail
  (with_reducible refine (K6.run _ (HM.out.below L7.out)).mono ?_); rintro _ w6 ⟨rfl, l6⟩
  have L8 := Lib.hid (L7.out.trans (l6.mono (by simp; omega)))
  clear l6
  go_wp2_with fail
  (with_reducible refine (H5.out _ (HM.out.below L8.out)).mono ?_); rintro _ w7 ⟨rfl, l7⟩
  have L9 := Lib.hid (below2' L8.out l7)
  clear l7
  go_wp2
  go_ret
  exact ⟨rfl, L9.out⟩
set_option maxRecDepth 100000 in
set_option maxHeartbeats 1600000 in
theorem back_nyt (p q : Pt) (n a b c : Nat) (s t : Pt) (isb there may : Bool) (K1 : Code_ p a true) (K2 : Code_ q b true) (K3 : May_ p true) (K4 : Place_ a p true) (K5 : Place_ n t true) (K6 : Code_ t n true) (e1 : ((a : Int) == b) = false) (e2 : (p.x == q.x) = true) (e3 : (p.y == q.y) = false) (w : World) (HM : Hid (MaskT w)) :
    Calls Tryd.prog 5 #[.agg #[.int .i64 p.x, .int .i64 p.y], .agg #[.int .i64 q.x, .int .i64 q.y], .int .u64 n] w fun e w' => e = .returned (.bool true) ∧ Below w.heap.size w w' := by
  have H5 := Lib.hid awake_any
  go_enter Tryd.func5, Tryd.ntmps5
  have L0 := Lib.hid ((((Below.refl w.heap.size w).alloc (Nat.le_refl _) (.cells #[.int .i64 p.x, .int .i64 p.y] 23))).alloc (by simp) (.cells #[.int .i64 q.x, .int .i64 q.y] 23))
  go_wp2_with fail
  (with_reducible refine (K1.run _ (HM.out.below L0.out)).mono ?_); rintro _ w1 ⟨rfl, l1⟩
  have L1 := Lib.hid (L0.out.trans (l1.mono (by simp; omega)))
  obtain ⟨hc, hf⟩ := bcell l1
  have c0 : w1.cell? ⟨w.heap.size, 0, none⟩ = some (.int .i64 p.x) := by go_simp
  have c1 : w1.cell? ⟨w.heap.size, 1, none⟩ = some (.int .i64 p.y) := by go_simp
  have c2 : w1.cell? ⟨w.heap.size + 1, 0, none⟩ = some (.int .i64 q.x) := by go_simp
  have c3 : w1.cell? ⟨w.heap.size + 1, 1, none⟩ = some (.int .i64 q.y) := by go_simp
  clear l1 hc hf
  go_wp2_with fail
  (with_reducible refine (K2.run _ (HM.out.below L1.out)).mono ?_); rintro _ w2 ⟨rfl, l2⟩
  have L2 := Lib.hid (below2' L1.out l2)
  have d0 := kp' l2 (cell_lt' c0) c0
  have d1 := kp' l2 (cell_lt' c1) c1
  have d2 := kp' l2 (cell_lt' c2) c2
  have d3 := kp' l2 (cell_lt' c3) c3
  clear l2 c0 c1 c2 c3
  go_wp2_with fail
  (with_reducible refine (K3.run _).mono ?_); rintro _ w3 ⟨rfl, l3⟩
  have L3 := Lib.hid (below2' L2.out l3)
  have c0 := kp' l3 (cell_lt' d0) d0
  have c1 := kp' l3 (cell_lt' d1) d1
  have c2 := kp' l3 (cell_lt' d2) d2
  have c3 := kp' l3 (cell_lt' d3) d3
  clear l3 d0 d1 d2 d3
  go_wp2_with fail
  (with_reducible refine (K4.run _ (HM.out.below L3.out)).mono ?_); rintro _ w4 ⟨rfl, l4⟩
  have hz3 : w.heap.size ≤ w3.heap.size := L3.out.size
  have L4 := Lib.hid (below2' L3.out l4)
  have d0 := kp' l4 (cell_lt' c0) c0
  have d1 := kp' l4 (cell_lt' c1) c1
  have lt := cell_lt' d0
  clear l4 c0 c1 c2 c3
  have hz4 : w.heap.size ≤ w4.heap.size := L4.out.size
  have L5 := Lib.hid (L4.out.alloc hz4 (.cells #[.int .i64 p.x, .int .i64 p.y] 23))
  go_wp2_with fail
  (with_reducible refine (K5.run _ (HM.out.below L5.out)).mono ?_); rintro _ w5 ⟨rfl, l5⟩
  have L6 := Lib.hid (L5.out.trans (l5.mono (by simp; omega)))
  clear l5
  have hz5 : w.heap.size ≤ w5.heap.size := L6.out.size
  have L7 := Lib.hid (L6.out.alloc hz5 (.cells #[.int .i64 t.x, .int .i64 t.y] 23))
  go_wp2_with fail
  (with_reducible refine (K6.run _ (HM.out.below L7.out)).mono ?_); rintro _ w6 ⟨rfl, l6⟩
  have L8 := Lib.hid (L7.out.trans (l6.mono (by simp; omega)))
  clear l6
  go_wp2_with fail
  (with_reducible refine (H5.out _ (HM.out.below L8.out)).mono ?_); rintro _ w7 ⟨rfl, l7⟩
  have L9 := Lib.hid (below2' L8.out l7)
  clear l7
  go_wp2
  go_ret
  exact ⟨rfl, L9.out⟩
set_option maxRecDepth 100000 in
set_option maxHeartbeats 1600000 in
theorem back_nyf (p q : Pt) (n a b c : Nat) (s t : Pt) (isb there may : Bool) (K1 : Code_ p a true) (K2 : Code_ q b true) (K3 : May_ p true) (K4 : Place_ a p true) (K5 : Place_ n t false) (K6 : Code_ t c may) (e1 : ((a : Int) == b) = false) (e2 : (p.x == q.x) = true) (e3 : (p.y == q.y) = false) (w : World) (HM : Hid (MaskT w)) :
    Calls Tryd.prog 5 #[.agg #[.int .i64 p.x, .int .i64 p.y], .agg #[.int .i64 q.x, .int .i64 q.y], .int .u64 n] w fun e w' => e = .returned (.bool true) ∧ Below w.heap.size w w' := by
  have H5 := Lib.hid awake_any
  go_enter Tryd.func5, Tryd.ntmps5
  have L0 := Lib.hid ((((Below.refl w.heap.size w).alloc (Nat.le_refl _) (.cells #[.int .i64 p.x, .int .i64 p.y] 23))).alloc (by simp) (.cells #[.int .i64 q.x, .int .i64 q.y] 23))
  go_wp2_with fail
  (with_reducible refine (K1.run _ (HM.out.below L0.out)).mono ?_); rintro _ w1 ⟨rfl, l1⟩
  have L1 := Lib.hid (L0.out.trans (l1.mono (by simp; omega)))
  obtain ⟨hc, hf⟩ := bcell l1
  have c0 : w1.cell? ⟨w.heap.size, 0, none⟩ = some (.int .i64 p.x) := by go_simp
  have c1 : w1.cell? ⟨w.heap.size, 1, none⟩ = some (.int .i64 p.y) := by go_simp
  have c2 : w1.cell? ⟨w.heap.size + 1, 0, none⟩ = some (.int .i64 q.x) := by go_simp
  have c3 : w1.cell? ⟨w.heap.size + 1, 1, none⟩ = some (.int .i64 q.y) := by go_simp
  clear l1 hc hf
  go_wp2_with fail
  (with_reducible refine (K2.run _ (HM.out.below L1.out)).mono ?_); rintro _ w2 ⟨rfl, l2⟩
  have L2 := Lib.hid (below2' L1.out l2)
  have d0 := kp' l2 (cell_lt' c0) c0
  have d1 := kp' l2 (cell_lt' c1) c1
  have d2 := kp' l2 (cell_lt' c2) c2
  have d3 := kp' l2 (cell_lt' c3) c3
  clear l2 c0 c1 c2 c3
  go_wp2_with fail
  (with_reducible refine (K3.run _).mono ?_); rintro _ w3 ⟨rfl, l3⟩
  have L3 := Lib.hid (below2' L2.out l3)
  have c0 := kp' l3 (cell_lt' d0) d0
  have c1 := kp' l3 (cell_lt' d1) d1
  have c2 := kp' l3 (cell_lt' d2) d2
  have c3 := kp' l3 (cell_lt' d3) d3
  clear l3 d0 d1 d2 d3
  go_wp2_with fail
  (with_reducible refine (K4.run _ (HM.out.below L3.out)).mono ?_); rintro _ w4 ⟨rfl, l4⟩
  have hz3 : w.heap.size ≤ w3.heap.size := L3.out.size
  have L4 := Lib.hid (below2' L3.out l4)
  have d0 := kp' l4 (cell_lt' c0) c0
  have d1 := kp' l4 (cell_lt' c1) c1
  have lt := cell_lt' d0
  clear l4 c0 c1 c2 c3
  have hz4 : w.heap.size ≤ w4.heap.size := L4.out.size
  have L5 := Lib.hid (L4.out.alloc hz4 (.cells #[.int .i64 p.x, .int .i64 p.y] 23))
  go_wp2_with fail
  (with_reducible refine (K5.run _ (HM.out.below L5.out)).mono ?_); rintro _ w5 ⟨rfl, l5⟩
  have L6 := Lib.hid (L5.out.trans (l5.mono (by simp; omega)))
  clear l5
  have hz5 : w.heap.size ≤ w5.heap.size := L6.out.size
  have L7 := Lib.hid (L6.out.alloc hz5 (.cells #[.int .i64 t.x, .int .i64 t.y] 23))
  go_wp2_with fail
  (with_reducible refine (K6.run _ (HM.out.below L7.out)).mono ?_); rintro _ w6 ⟨rfl, l6⟩
  have L8 := Lib.hid (L7.out.trans (l6.mono (by simp; omega)))
  clear l6
  go_wp2_with fail
  (with_reducible refine (H5.out _ (HM.out.below L8.out)).mono ?_); rintro _ w7 ⟨rfl, l7⟩
  have L9 := Lib.hid (below2' L8.out l7)
  clear l7
  go_wp2
  go_ret
  exact ⟨rfl, L9.out⟩
set_option maxRecDepth 100000 in
set_option maxHeartbeats 1600000 in
theorem back_nqt (p q : Pt) (n a b c : Nat) (s t : Pt) (isb there may : Bool) (K1 : Code_ p a true) (K2 : Code_ q b false) (K3 : May_ p true) (K4 : Place_ a p true) (K5 : Place_ n t true) (K6 : Code_ t n true) (w : World) (HM : Hid (MaskT w)) :
    Calls Tryd.prog 5 #[.agg #[.int .i64 p.x, .int .i64 p.y], .agg #[.int .i64 q.x, .int .i64 q.y], .int .u64 n] w fun e w' => e = .returned (.bool true) ∧ Below w.heap.size w w' := by
  have H5 := Lib.hid awake_any
  go_enter Tryd.func5, Tryd.ntmps5
  have L0 := Lib.hid ((((Below.refl w.heap.size w).alloc (Nat.le_refl _) (.cells #[.int .i64 p.x, .int .i64 p.y] 23))).alloc (by simp) (.cells #[.int .i64 q.x, .int .i64 q.y] 23))
  go_wp2_with fail
  (with_reducible refine (K1.run _ (HM.out.below L0.out)).mono ?_); rintro _ w1 ⟨rfl, l1⟩
  have L1 := Lib.hid (L0.out.trans (l1.mono (by simp; omega)))
  obtain ⟨hc, hf⟩ := bcell l1
  have c0 : w1.cell? ⟨w.heap.size, 0, none⟩ = some (.int .i64 p.x) := by go_simp
  have c1 : w1.cell? ⟨w.heap.size, 1, none⟩ = some (.int .i64 p.y) := by go_simp
  have c2 : w1.cell? ⟨w.heap.size + 1, 0, none⟩ = some (.int .i64 q.x) := by go_simp
  have c3 : w1.cell? ⟨w.heap.size + 1, 1, none⟩ = some (.int .i64 q.y) := by go_simp
  clear l1 hc hf
  go_wp2_with fail
  (with_reducible refine (K2.run _ (HM.out.below L1.out)).mono ?_); rintro _ w2 ⟨rfl, l2⟩
  have L2 := Lib.hid (below2' L1.out l2)
  have d0 := kp' l2 (cell_lt' c0) c0
  have d1 := kp' l2 (cell_lt' c1) c1
  have d2 := kp' l2 (cell_lt' c2) c2
  have d3 := kp' l2 (cell_lt' c3) c3
  clear l2 c0 c1 c2 c3
  go_wp2_with fail
  (with_reducible refine (K3.run _).mono ?_); rintro _ w3 ⟨rfl, l3⟩
  have L3 := Lib.hid (below2' L2.out l3)
  have c0 := kp' l3 (cell_lt' d0) d0
  have c1 := kp' l3 (cell_lt' d1) d1
  have c2 := kp' l3 (cell_lt' d2) d2
  have c3 := kp' l3 (cell_lt' d3) d3
  clear l3 d0 d1 d2 d3
  go_wp2_with fail
  (with_reducible refine (K4.run _ (HM.out.below L3.out)).mono ?_); rintro _ w4 ⟨rfl, l4⟩
  have hz3 : w.heap.size ≤ w3.heap.size := L3.out.size
  have L4 := Lib.hid (below2' L3.out l4)
  have d0 := kp' l4 (cell_lt' c0) c0
  have d1 := kp' l4 (cell_lt' c1) c1
  have lt := cell_lt' d0
  clear l4 c0 c1 c2 c3
  have hz4 : w.heap.size ≤ w4.heap.size := L4.out.size
  have L5 := Lib.hid (L4.out.alloc hz4 (.cells #[.int .i64 p.x, .int .i64 p.y] 23))
  go_wp2_with fail
  (with_reducible refine (K5.run _ (HM.out.below L5.out)).mono ?_); rintro _ w5 ⟨rfl, l5⟩
  have L6 := Lib.hid (L5.out.trans (l5.mono (by simp; omega)))
  clear l5
  have hz5 : w.heap.size ≤ w5.heap.size := L6.out.size
  have L7 := Lib.hid (L6.out.alloc hz5 (.cells #[.int .i64 t.x, .int .i64 t.y] 23))
  go_wp2_with fail
  (with_reducible refine (K6.run _ (HM.out.below L7.out)).mono ?_); rintro _ w6 ⟨rfl, l6⟩
  have L8 := Lib.hid (L7.out.trans (l6.mono (by simp; omega)))
  clear l6
  go_wp2_with fail
  (with_reducible refine (H5.out _ (HM.out.below L8.out)).mono ?_); rintro _ w7 ⟨rfl, l7⟩
  have L9 := Lib.hid (below2' L8.out l7)
  clear l7
  go_wp2
  go_ret
  exact ⟨rfl, L9.out⟩
set_option maxRecDepth 100000 in
set_option maxHeartbeats 1600000 in
theorem back_nqf (p q : Pt) (n a b c : Nat) (s t : Pt) (isb there may : Bool) (K1 : Code_ p a true) (K2 : Code_ q b false) (K3 : May_ p true) (K4 : Place_ a p true) (K5 : Place_ n t false) (K6 : Code_ t c may) (w : World) (HM : Hid (MaskT w)) :
    Calls Tryd.prog 5 #[.agg #[.int .i64 p.x, .int .i64 p.y], .agg #[.int .i64 q.x, .int .i64 q.y], .int .u64 n] w fun e w' => e = .returned (.bool true) ∧ Below w.heap.size w w' := by
  have H5 := Lib.hid awake_any
  go_enter Tryd.func5, Tryd.ntmps5
  have L0 := Lib.hid ((((Below.refl w.heap.size w).alloc (Nat.le_refl _) (.cells #[.int .i64 p.x, .int .i64 p.y] 23))).alloc (by simp) (.cells #[.int .i64 q.x, .int .i64 q.y] 23))
  go_wp2_with fail
  (with_reducible refine (K1.run _ (HM.out.below L0.out)).mono ?_); rintro _ w1 ⟨rfl, l1⟩
  have L1 := Lib.hid (L0.out.trans (l1.mono (by simp; omega)))
  obtain ⟨hc, hf⟩ := bcell l1
  have c0 : w1.cell? ⟨w.heap.size, 0, none⟩ = some (.int .i64 p.x) := by go_simp
  have c1 : w1.cell? ⟨w.heap.size, 1, none⟩ = some (.int .i64 p.y) := by go_simp
  have c2 : w1.cell? ⟨w.heap.size + 1, 0, none⟩ = some (.int .i64 q.x) := by go_simp
  have c3 : w1.cell? ⟨w.heap.size + 1, 1, none⟩ = some (.int .i64 q.y) := by go_simp
  clear l1 hc hf
  go_wp2_with fail
  (with_reducible refine (K2.run _ (HM.out.below L1.out)).mono ?_); rintro _ w2 ⟨rfl, l2⟩
  have L2 := Lib.hid (below2' L1.out l2)
  have d0 := kp' l2 (cell_lt' c0) c0
  have d1 := kp' l2 (cell_lt' c1) c1
  have d2 := kp' l2 (cell_lt' c2) c2
  have d3 := kp' l2 (cell_lt' c3) c3
  clear l2 c0 c1 c2 c3
  go_wp2_with fail
  (with_reducible refine (K3.run _).mono ?_); rintro _ w3 ⟨rfl, l3⟩
  have L3 := Lib.hid (below2' L2.out l3)
  have c0 := kp' l3 (cell_lt' d0) d0
  have c1 := kp' l3 (cell_lt' d1) d1
  have c2 := kp' l3 (cell_lt' d2) d2
  have c3 := kp' l3 (cell_lt' d3) d3
  clear l3 d0 d1 d2 d3
  go_wp2_with fail
  (with_reducible refine (K4.run _ (HM.out.below L3.out)).mono ?_); rintro _ w4 ⟨rfl, l4⟩
  have hz3 : w.heap.size ≤ w3.heap.size := L3.out.size
  have L4 := Lib.hid (below2' L3.out l4)
  have d0 := kp' l4 (cell_lt' c0) c0
  have d1 := kp' l4 (cell_lt' c1) c1
  have lt := cell_lt' d0
  clear l4 c0 c1 c2 c3
  have hz4 : w.heap.size ≤ w4.heap.size := L4.out.size
  have L5 := Lib.hid (L4.out.alloc hz4 (.cells #[.int .i64 p.x, .int .i64 p.y] 23))
  go_wp2_with fail
  (with_reducible refine (K5.run _ (HM.out.below L5.out)).mono ?_); rintro _ w5 ⟨rfl, l5⟩
  have L6 := Lib.hid (L5.out.trans (l5.mono (by simp; omega)))
  clear l5
  have hz5 : w.heap.size ≤ w5.heap.size := L6.out.size
  have L7 := Lib.hid (L6.out.alloc hz5 (.cells #[.int .i64 t.x, .int .i64 t.y] 23))
  go_wp2_with fail
  (with_reducible refine (K6.run _ (HM.out.below L7.out)).mono ?_); rintro _ w6 ⟨rfl, l6⟩
  have L8 := Lib.hid (L7.out.trans (l6.mono (by simp; omega)))
  clear l6
  go_wp2_with fail
  (with_reducible refine (H5.out _ (HM.out.below L8.out)).mono ?_); rintro _ w7 ⟨rfl, l7⟩
  have L9 := Lib.hid (below2' L8.out l7)
  clear l7
  go_wp2
  go_ret
  exact ⟨rfl, L9.out⟩
set_option maxRecDepth 100000 in
set_option maxHeartbeats 1600000 in
theorem back_npt (p q : Pt) (n a b c : Nat) (s t : Pt) (isb there may : Bool) (K1 : Code_ p a false) (K2 : Code_ q b isb) (K3 : May_ p false) (K4 : Place_ a s there) (K5 : Place_ n t true) (K6 : Code_ t n true) (w : World) (HM : Hid (MaskT w)) :
    Calls Tryd.prog 5 #[.agg #[.int .i64 p.x, .int .i64 p.y], .agg #[.int .i64 q.x, .int .i64 q.y], .int .u64 n] w fun e w' => e = .returned (.bool true) ∧ Below w.heap.size w w' := by
  have H5 := Lib.hid awake_any
  go_enter Tryd.func5, Tryd.ntmps5
  have L0 := Lib.hid ((((Below.refl w.heap.size w).alloc (Nat.le_refl _) (.cells #[.int .i64 p.x, .int .i64 p.y] 23))).alloc (by simp) (.cells #[.int .i64 q.x, .int .i64 q.y] 23))
  go_wp2_with fail
  (with_reducible refine (K1.run _ (HM.out.below L0.out)).mono ?_); rintro _ w1 ⟨rfl, l1⟩
  have L1 := Lib.hid (L0.out.trans (l1.mono (by simp; omega)))
  obtain ⟨hc, hf⟩ := bcell l1
  have c0 : w1.cell? ⟨w.heap.size, 0, none⟩ = some (.int .i64 p.x) := by go_simp
  have c1 : w1.cell? ⟨w.heap.size, 1, none⟩ = some (.int .i64 p.y) := by go_simp
  have c2 : w1.cell? ⟨w.heap.size + 1, 0, none⟩ = some (.int .i64 q.x) := by go_simp
  have c3 : w1.cell? ⟨w.heap.size + 1, 1, none⟩ = some (.int .i64 q.y) := by go_simp
  clear l1 hc hf
  go_wp2_with fail
  (with_reducible refine (K2.run _ (HM.out.below L1.out)).mono ?_); rintro _ w2 ⟨rfl, l2⟩
  have L2 := Lib.hid (below2' L1.out l2)
  have d0 := kp' l2 (cell_lt' c0) c0
  have d1 := kp' l2 (cell_lt' c1) c1
  have d2 := kp' l2 (cell_lt' c2) c2
  have d3 := kp' l2 (cell_lt' c3) c3
  clear l2 c0 c1 c2 c3
  go_wp2_with fail
  (with_reducible refine (K3.run _).mono ?_); rintro _ w3 ⟨rfl, l3⟩
  have L3 := Lib.hid (below2' L2.out l3)
  have c0 := kp' l3 (cell_lt' d0) d0
  have c1 := kp' l3 (cell_lt' d1) d1
  have c2 := kp' l3 (cell_lt' d2) d2
  have c3 := kp' l3 (cell_lt' d3) d3
  clear l3 d0 d1 d2 d3
  go_wp2_with fail
  (with_reducible refine (K4.run _ (HM.out.below L3.out)).mono ?_); rintro _ w4 ⟨rfl, l4⟩
  have hz3 : w.heap.size ≤ w3.heap.size := L3.out.size
  have L4 := Lib.hid (below2' L3.out l4)
  have d0 := kp' l4 (cell_lt' c0) c0
  have d1 := kp' l4 (cell_lt' c1) c1
  have lt := cell_lt' d0
  clear l4 c0 c1 c2 c3
  have hz4 : w.heap.size ≤ w4.heap.size := L4.out.size
  have L5 := Lib.hid (L4.out.alloc hz4 (.cells #[.int .i64 s.x, .int .i64 s.y] 23))
  go_wp2_with fail
  (with_reducible refine (K5.run _ (HM.out.below L5.out)).mono ?_); rintro _ w5 ⟨rfl, l5⟩
  have L6 := Lib.hid (L5.out.trans (l5.mono (by simp; omega)))
  clear l5
  have hz5 : w.heap.size ≤ w5.heap.size := L6.out.size
  have L7 := Lib.hid (L6.out.alloc hz5 (.cells #[.int .i64 t.x, .int .i64 t.y] 23))
  go_wp2_with fail
  (with_reducible refine (K6.run _ (HM.out.below L7.out)).mono ?_); rintro _ w6 ⟨rfl, l6⟩
  have L8 := Lib.hid (L7.out.trans (l6.mono (by simp; omega)))
  clear l6
  go_wp2_with fail
  (with_reducible refine (H5.out _ (HM.out.below L8.out)).mono ?_); rintro _ w7 ⟨rfl, l7⟩
  have L9 := Lib.hid (below2' L8.out l7)
  clear l7
  go_wp2
  go_ret
  exact ⟨rfl, L9.out⟩
set_option maxRecDepth 100000 in
set_option maxHeartbeats 1600000 in
theorem back_npf (p q : Pt) (n a b c : Nat) (s t : Pt) (isb there may : Bool) (K1 : Code_ p a false) (K2 : Code_ q b isb) (K3 : May_ p false) (K4 : Place_ a s there) (K5 : Place_ n t false) (K6 : Code_ t c may) (w : World) (HM : Hid (MaskT w)) :
    Calls Tryd.prog 5 #[.agg #[.int .i64 p.x, .int .i64 p.y], .agg #[.int .i64 q.x, .int .i64 q.y], .int .u64 n] w fun e w' => e = .returned (.bool true) ∧ Below w.heap.size w w' := by
  have H5 := Lib.hid awake_any
  go_enter Tryd.func5, Tryd.ntmps5
  have L0 := Lib.hid ((((Below.refl w.heap.size w).alloc (Nat.le_refl _) (.cells #[.int .i64 p.x, .int .i64 p.y] 23))).alloc (by simp) (.cells #[.int .i64 q.x, .int .i64 q.y] 23))
  go_wp2_with fail
  (with_reducible refine (K1.run _ (HM.out.below L0.out)).mono ?_); rintro _ w1 ⟨rfl, l1⟩
  have L1 := Lib.hid (L0.out.trans (l1.mono (by simp; omega)))
  obtain ⟨hc, hf⟩ := bcell l1
  have c0 : w1.cell? ⟨w.heap.size, 0, none⟩ = some (.int .i64 p.x) := by go_simp
  have c1 : w1.cell? ⟨w.heap.size, 1, none⟩ = some (.int .i64 p.y) := by go_simp
  have c2 : w1.cell? ⟨w.heap.size + 1, 0, none⟩ = some (.int .i64 q.x) := by go_simp
  have c3 : w1.cell? ⟨w.heap.size + 1, 1, none⟩ = some (.int .i64 q.y) := by go_simp
  clear l1 hc hf
  go_wp2_with fail
  (with_reducible refine (K2.run _ (HM.out.below L1.out)).mono ?_); rintro _ w2 ⟨rfl, l2⟩
  have L2 := Lib.hid (below2' L1.out l2)
  have d0 := kp' l2 (cell_lt' c0) c0
  have d1 := kp' l2 (cell_lt' c1) c1
  have d2 := kp' l2 (cell_lt' c2) c2
  have d3 := kp' l2 (cell_lt' c3) c3
  clear l2 c0 c1 c2 c3
  go_wp2_with fail
  (with_reducible refine (K3.run _).mono ?_); rintro _ w3 ⟨rfl, l3⟩
  have L3 := Lib.hid (below2' L2.out l3)
  have c0 := kp' l3 (cell_lt' d0) d0
  have c1 := kp' l3 (cell_lt' d1) d1
  have c2 := kp' l3 (cell_lt' d2) d2
  have c3 := kp' l3 (cell_lt' d3) d3
  clear l3 d0 d1 d2 d3
  go_wp2_with fail
  (with_reducible refine (K4.run _ (HM.out.below L3.out)).mono ?_); rintro _ w4 ⟨rfl, l4⟩
  have hz3 : w.heap.size ≤ w3.heap.size := L3.out.size
  have L4 := Lib.hid (below2' L3.out l4)
  have d0 := kp' l4 (cell_lt' c0) c0
  have d1 := kp' l4 (cell_lt' c1) c1
  have lt := cell_lt' d0
  clear l4 c0 c1 c2 c3
  have hz4 : w.heap.size ≤ w4.heap.size := L4.out.size
  have L5 := Lib.hid (L4.out.alloc hz4 (.cells #[.int .i64 s.x, .int .i64 s.y] 23))
  go_wp2_with fail
  (with_reducible refine (K5.run _ (HM.out.below L5.out)).mono ?_); rintro _ w5 ⟨rfl, l5⟩
  have L6 := Lib.hid (L5.out.trans (l5.mono (by simp; omega)))
  clear l5
  have hz5 : w.heap.size ≤ w5.heap.size := L6.out.size
  have L7 := Lib.hid (L6.out.alloc hz5 (.cells #[.int .i64 t.x, .int .i64 t.y] 23))
  go_wp2_with fail
  (with_reducible refine (K6.run _ (HM.out.below L7.out)).mono ?_); rintro _ w6 ⟨rfl, l6⟩
  have L8 := Lib.hid (L7.out.trans (l6.mono (by simp; omega)))
  clear l6
  go_wp2_with fail
  (with_reducible refine (H5.out _ (HM.out.below L8.out)).mono ?_); rintro _ w7 ⟨rfl, l7⟩
  have L9 := Lib.hid (below2' L8.out l7)
  clear l7
  go_wp2
  go_ret
  exact ⟨rfl, L9.out⟩
theorem hashBack_walk (p q : Pt) (n : Nat) (hn : n < 18446744073709551616) (w : World) (hm : MaskT w) :
    Calls Tryd.prog 5 #[.agg #[.int .i64 p.x, .int .i64 p.y], .agg #[.int .i64 q.x, .int .i64 q.y], .int .u64 n] w fun e w' => e = .returned (.bool true) ∧ Below w.heap.size w w' := by
  have HM := Lib.hid hm
  have K1 : Code_ p (codeV p) (mayB p) := fun W h => code_any p W h
  have K2 : Code_ q (codeV q) (mayB q) := fun W h => code_any q W h
  have K3 : May_ p (mayB p) := fun W => may_any p W
  have K4 : Place_ (codeV p) (placeV (codeV p)) (mayB (placeP (codeV p))) := fun W h => place_any _ (codeV_lt p) W h
  have K5 : Place_ n (placeV n) (mayB (placeP n)) := fun W h => place_any n hn W h
  have K6 : Code_ (placeV n) (codeV (placeV n)) (mayB (placeV n)) := fun W h => code_any _ W h
  have hT : mayB (placeP n) = true → Code_ (placeV n) n true := fun h => by
    have h' : MayP (placeP n) := of_decide_eq_true h
    rw [code_place hn h', show placeV n = placeP n from if_pos h', h] at K6
    rwa [show placeV n = placeP n from if_pos h']
  by_cases hp : MayP p
  · rw [may_yes hp] at K1 K3
    rw [placeV_code hp, place_code hp, may_yes hp] at K4
    by_cases hq : MayP q
    · rw [may_yes hq] at K2
      by_cases e : p = q
      · have e1 : (((codeV p : Nat) : Int) == codeV q) = true := by rw [e]; simp
        have e2 : (p.x == q.x) = true := by rw [e]; simp
        have e3 : (p.y == q.y) = true := by rw [e]; simp
        cases hb : mayB (placeP n)
        · rw [hb] at K5; exact back_eqf p q n _ _ _ ⟨0, 0⟩ _ false false _ K1 K2 K3 K4 K5 K6 e1 e2 e3 w HM
        · rw [hb] at K5; exact back_eqt p q n _ _ 0 ⟨0, 0⟩ _ false false false K1 K2 K3 K4 K5 (hT hb) e1 e2 e3 w HM
      · have e0 : codeV p ≠ codeV q := fun h => e (code_inj hp hq h)
        have e1 : (((codeV p : Nat) : Int) == codeV q) = false := by simp; omega
        by_cases ex : p.x = q.x
        · have ey : (p.y == q.y) = false := by
            simp
            intro h
            apply e
            obtain ⟨a, b⟩ := p
            obtain ⟨c, d⟩ := q
            dsimp only at ex h
            rw [ex, h]
          cases hb : mayB (placeP n)
          · rw [hb] at K5; exact back_nyf p q n _ _ _ ⟨0, 0⟩ _ false false _ K1 K2 K3 K4 K5 K6 e1 (by simpa using ex) ey w HM
          · rw [hb] at K5; exact back_nyt p q n _ _ 0 ⟨0, 0⟩ _ false false false K1 K2 K3 K4 K5 (hT hb) e1 (by simpa using ex) ey w HM
        · have ex : (p.x == q.x) = false := by simpa using ex
          cases hb : mayB (placeP n)
          · rw [hb] at K5; exact back_nxf p q n _ _ _ ⟨0, 0⟩ _ false false _ K1 K2 K3 K4 K5 K6 e1 ex w HM
          · rw [hb] at K5; exact back_nxt p q n _ _ 0 ⟨0, 0⟩ _ false false false K1 K2 K3 K4 K5 (hT hb) e1 ex w HM
    · rw [may_no hq] at K2
      cases hb : mayB (placeP n)
      · rw [hb] at K5; exact back_nqf p q n _ _ _ ⟨0, 0⟩ _ false false _ K1 K2 K3 K4 K5 K6 w HM
      · rw [hb] at K5; exact back_nqt p q n _ _ 0 ⟨0, 0⟩ _ false false false K1 K2 K3 K4 K5 (hT hb) w HM
  · rw [may_no hp] at K1 K3
    cases hb : mayB (placeP n)
    · rw [hb] at K5; exact back_npf p q n _ _ _ _ _ _ _ _ K1 K2 K3 K4 K5 K6 w HM
    · rw [hb] at K5; exact back_npt p q n _ _ 0 _ _ _ _ false K1 K2 K3 K4 K5 (hT hb) w HM
end Go.Proofs.YtlkdjpidofnhdaaDoor
