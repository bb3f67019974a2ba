/- WideProducts: the walk. -/
import Derived.Test.YtdpgoddhchoefaaWRefSign
import Derived.Test.YtdpgoddhchoefaaWAwake
import Derived.ChangeKeysEq
import Derived.Laws.StructEq
namespace Go.Proofs.Ytdpgoddhchoefaa
open Go.RowKit
set_option linter.unusedVariables false

/-- A row is the same as itself. -/
theorem row_same (x : Int) (w : World) : (Op.equalIn 10000 26 (.agg #[.int .i64 (rowF x 0), .int .i64 (rowF x 1), .int .i64 (rowF x 2), .int .i64 (rowF x 3), .int .i64 (rowF x 4), .int .i64 (rowF x 5), .int .i64 (rowF x 6), .int .i64 (rowF x 7)]) (.agg #[.int .i64 (rowF x 0), .int .i64 (rowF x 1), .int .i64 (rowF x 2), .int .i64 (rowF x 3), .int .i64 (rowF x 4), .int .i64 (rowF x 5), .int .i64 (rowF x 6), .int .i64 (rowF x 7)])).run Try.prog w = .ok true w := by
  obtain ⟨i, hi⟩ : ∃ i, Try.prog.types[3]? = some i := Option.isSome_iff_exists.1 (by kernel_rfl)
  have hc : Try.prog.cellsOf 3 = 1 := by kernel_rfl
  rw [run_equalIn_array w 9999 _ _ (n := 8) (e := 3) (i := i) Try.underlying26 hi, hc]
  have hk : ∀ (a : Int) (W : World), (Op.equalIn 9999 3 (.int .i64 a) (.int .i64 a)).run Try.prog W = .ok true W := fun a W => by
    rw [run_equalIn_int W 9998 3 .i64 .i64 a a Try.underlying3]; simp
  simp [Op.eqItems, List.range, List.range.loop, hk, go_sem]
/-- Two rows in memory, and their cells. -/
theorem rows_s {w W : World} {p q : Nat} {a b : Int} (l : Below w.heap.size w W) (ha : ArrI W 26 p (rowF a)) (hb : ArrI W 26 q (rowF b)) : Below w.heap.size w W ∧ ArrI W 26 (p) (rowF a) ∧ ArrI W 26 (q) (rowF b) ∧ W.cell? ⟨p, 0, none⟩ = some (.int .i64 (rowF a 0)) ∧ W.cell? ⟨p, 1, none⟩ = some (.int .i64 (rowF a 1)) ∧ W.cell? ⟨p, 2, none⟩ = some (.int .i64 (rowF a 2)) ∧ W.cell? ⟨p, 3, none⟩ = some (.int .i64 (rowF a 3)) ∧ W.cell? ⟨p, 4, none⟩ = some (.int .i64 (rowF a 4)) ∧ W.cell? ⟨p, 5, none⟩ = some (.int .i64 (rowF a 5)) ∧ W.cell? ⟨p, 6, none⟩ = some (.int .i64 (rowF a 6)) ∧ W.cell? ⟨p, 7, none⟩ = some (.int .i64 (rowF a 7)) ∧ W.cell? ⟨q, 0, none⟩ = some (.int .i64 (rowF b 0)) ∧ W.cell? ⟨q, 1, none⟩ = some (.int .i64 (rowF b 1)) ∧ W.cell? ⟨q, 2, none⟩ = some (.int .i64 (rowF b 2)) ∧ W.cell? ⟨q, 3, none⟩ = some (.int .i64 (rowF b 3)) ∧ W.cell? ⟨q, 4, none⟩ = some (.int .i64 (rowF b 4)) ∧ W.cell? ⟨q, 5, none⟩ = some (.int .i64 (rowF b 5)) ∧ W.cell? ⟨q, 6, none⟩ = some (.int .i64 (rowF b 6)) ∧ W.cell? ⟨q, 7, none⟩ = some (.int .i64 (rowF b 7)) := by
  obtain ⟨a0, a1, a2, a3, a4, a5, a6, a7⟩ := ha.cells (G := rowF a) fun _ _ => rfl
  exact ⟨l, ha, hb, a0, a1, a2, a3, a4, a5, a6, a7, hb.cells (G := rowF b) fun _ _ => rfl⟩
theorem rows_keep {w W W' : World} {p q : Nat} {a b : Int} (l1 : Below W.heap.size W W') (h : Below w.heap.size w W ∧ ArrI W 26 (p) (rowF a) ∧ ArrI W 26 (q) (rowF b) ∧ W.cell? ⟨p, 0, none⟩ = some (.int .i64 (rowF a 0)) ∧ W.cell? ⟨p, 1, none⟩ = some (.int .i64 (rowF a 1)) ∧ W.cell? ⟨p, 2, none⟩ = some (.int .i64 (rowF a 2)) ∧ W.cell? ⟨p, 3, none⟩ = some (.int .i64 (rowF a 3)) ∧ W.cell? ⟨p, 4, none⟩ = some (.int .i64 (rowF a 4)) ∧ W.cell? ⟨p, 5, none⟩ = some (.int .i64 (rowF a 5)) ∧ W.cell? ⟨p, 6, none⟩ = some (.int .i64 (rowF a 6)) ∧ W.cell? ⟨p, 7, none⟩ = some (.int .i64 (rowF a 7)) ∧ W.cell? ⟨q, 0, none⟩ = some (.int .i64 (rowF b 0)) ∧ W.cell? ⟨q, 1, none⟩ = some (.int .i64 (rowF b 1)) ∧ W.cell? ⟨q, 2, none⟩ = some (.int .i64 (rowF b 2)) ∧ W.cell? ⟨q, 3, none⟩ = some (.int .i64 (rowF b 3)) ∧ W.cell? ⟨q, 4, none⟩ = some (.int .i64 (rowF b 4)) ∧ W.cell? ⟨q, 5, none⟩ = some (.int .i64 (rowF b 5)) ∧ W.cell? ⟨q, 6, none⟩ = some (.int .i64 (rowF b 6)) ∧ W.cell? ⟨q, 7, none⟩ = some (.int .i64 (rowF b 7))) : Below w.heap.size w W' ∧ ArrI W' 26 (p) (rowF a) ∧ ArrI W' 26 (q) (rowF b) ∧ W'.cell? ⟨p, 0, none⟩ = some (.int .i64 (rowF a 0)) ∧ W'.cell? ⟨p, 1, none⟩ = some (.int .i64 (rowF a 1)) ∧ W'.cell? ⟨p, 2, none⟩ = some (.int .i64 (rowF a 2)) ∧ W'.cell? ⟨p, 3, none⟩ = some (.int .i64 (rowF a 3)) ∧ W'.cell? ⟨p, 4, none⟩ = some (.int .i64 (rowF a 4)) ∧ W'.cell? ⟨p, 5, none⟩ = some (.int .i64 (rowF a 5)) ∧ W'.cell? ⟨p, 6, none⟩ = some (.int .i64 (rowF a 6)) ∧ W'.cell? ⟨p, 7, none⟩ = some (.int .i64 (rowF a 7)) ∧ W'.cell? ⟨q, 0, none⟩ = some (.int .i64 (rowF b 0)) ∧ W'.cell? ⟨q, 1, none⟩ = some (.int .i64 (rowF b 1)) ∧ W'.cell? ⟨q, 2, none⟩ = some (.int .i64 (rowF b 2)) ∧ W'.cell? ⟨q, 3, none⟩ = some (.int .i64 (rowF b 3)) ∧ W'.cell? ⟨q, 4, none⟩ = some (.int .i64 (rowF b 4)) ∧ W'.cell? ⟨q, 5, none⟩ = some (.int .i64 (rowF b 5)) ∧ W'.cell? ⟨q, 6, none⟩ = some (.int .i64 (rowF b 6)) ∧ W'.cell? ⟨q, 7, none⟩ = some (.int .i64 (rowF b 7)) :=
  rows_s (h.1.trans (l1.mono h.1.size)) (h.2.1.keep l1 (World.rowIs.lt h.2.1)) (h.2.2.1.keep l1 (World.rowIs.lt h.2.2.1))
/-- Two new rows, written one behind the other. -/
theorem rows_new (w : World) (a b : Int) : ArrI ((w.alloc (.cells #[.int .i64 (rowF a 0), .int .i64 (rowF a 1), .int .i64 (rowF a 2), .int .i64 (rowF a 3), .int .i64 (rowF a 4), .int .i64 (rowF a 5), .int .i64 (rowF a 6), .int .i64 (rowF a 7)] 26)).alloc (.cells #[.int .i64 (rowF b 0), .int .i64 (rowF b 1), .int .i64 (rowF b 2), .int .i64 (rowF b 3), .int .i64 (rowF b 4), .int .i64 (rowF b 5), .int .i64 (rowF b 6), .int .i64 (rowF b 7)] 26)) 26 w.heap.size (rowF a) ∧ ArrI ((w.alloc (.cells #[.int .i64 (rowF a 0), .int .i64 (rowF a 1), .int .i64 (rowF a 2), .int .i64 (rowF a 3), .int .i64 (rowF a 4), .int .i64 (rowF a 5), .int .i64 (rowF a 6), .int .i64 (rowF a 7)] 26)).alloc (.cells #[.int .i64 (rowF b 0), .int .i64 (rowF b 1), .int .i64 (rowF b 2), .int .i64 (rowF b 3), .int .i64 (rowF b 4), .int .i64 (rowF b 5), .int .i64 (rowF b 6), .int .i64 (rowF b 7)] 26)) 26 (w.heap.size + 1) (rowF b) ∧ Below w.heap.size w ((w.alloc (.cells #[.int .i64 (rowF a 0), .int .i64 (rowF a 1), .int .i64 (rowF a 2), .int .i64 (rowF a 3), .int .i64 (rowF a 4), .int .i64 (rowF a 5), .int .i64 (rowF a 6), .int .i64 (rowF a 7)] 26)).alloc (.cells #[.int .i64 (rowF b 0), .int .i64 (rowF b 1), .int .i64 (rowF b 2), .int .i64 (rowF b 3), .int .i64 (rowF b 4), .int .i64 (rowF b 5), .int .i64 (rowF b 6), .int .i64 (rowF b 7)] 26)) := by
  have h0 := arrI_box w 26 (rowF a)
  have h1 := arrI_box (w.alloc (.cells #[.int .i64 (rowF a 0), .int .i64 (rowF a 1), .int .i64 (rowF a 2), .int .i64 (rowF a 3), .int .i64 (rowF a 4), .int .i64 (rowF a 5), .int .i64 (rowF a 6), .int .i64 (rowF a 7)] 26)) 26 (rowF b)
  rw [World.size_alloc] at h1
  exact ⟨World.rowIs.alloc h0 _, h1, ((Below.refl _ _).alloc (Nat.le_refl _) _).alloc (by simp) _⟩
set_option maxRecDepth 100000 in
set_option maxHeartbeats 8000000 in
theorem wideProducts_walk (a b : Int) (w : World) (ha : In64 a) (hb : In64 b) : Calls Try.prog 4 #[.int .i64 a, .int .i64 b] w fun e w' => e = .returned (.bool true) ∧ Below w.heap.size w w' := by
  have k1 := fun W => refInt_any a ha W
  have k2 := fun W => refInt_any b hb W
  have k3 := fun W => of_any a ha W
  have es : svW a = a := sv_in64 ha
  have k4 := fun W => int_yes a (by rw [es]; exact ha) W
  rw [es] at k4
  have k5 := fun W => mul_any a b ha hb W
  have k6 := fun W => refMul_any a b W
  obtain ⟨p, hp⟩ : ∃ p, p = a * b := ⟨_, rfl⟩
  rw [← hp] at k5 k6
  have hr1 := row_same a
  have hr2 := row_same p
  have k7 := fun W => row_any p W
  have k8 := fun W => row_any a W
  unfold rowV at k1 k2 k6 k7 k8
  have K9 := Lib.hid (fun W => wAwake_any W)
  have K1 := Lib.hid k1
  have K2 := Lib.hid k2
  have K3 := Lib.hid k3
  have K4 := Lib.hid k4
  have K5 := Lib.hid k5
  have K6 := Lib.hid k6
  have K7 := Lib.hid k7
  have K8 := Lib.hid k8
  clear k1 k2 k3 k4 k5 k6 k7 k8 hp es ha hb
  go_enter Try.func4, Try.ntmps4
  go_wp2_with fail
  (with_reducible refine (K1.out _).mono ?_); rintro _ w1 ⟨rfl, l1⟩; have L1 := Lib.hid l1; clear l1
  go_wp2_with fail
  (with_reducible refine (K2.out _).mono ?_); rintro _ w2 ⟨rfl, l2⟩; have L2 := Lib.hid (L1.out.trans (l2.mono L1.out.size)); clear l2
  go_wp2_with fail
  have hN := rows_new w2 a b
  generalize ((w2.alloc (.cells #[.int .i64 (rowF a 0), .int .i64 (rowF a 1), .int .i64 (rowF a 2), .int .i64 (rowF a 3), .int .i64 (rowF a 4), .int .i64 (rowF a 5), .int .i64 (rowF a 6), .int .i64 (rowF a 7)] 26)).alloc (.cells #[.int .i64 (rowF b 0), .int .i64 (rowF b 1), .int .i64 (rowF b 2), .int .i64 (rowF b 3), .int .i64 (rowF b 4), .int .i64 (rowF b 5), .int .i64 (rowF b 6), .int .i64 (rowF b 7)] 26)) = W at hN ⊢
  obtain ⟨hA, hB, hl⟩ := hN
  obtain ⟨g, hg⟩ : ∃ g, g = w2.heap.size := ⟨_, rfl⟩
  rw [← hg] at hA hB ⊢
  have S0 := Lib.hid (rows_s (L2.out.trans (hl.mono L2.out.size)) hA hB)
  clear hA hB hl hg
  (with_reducible refine (K3.out _).mono ?_); rintro _ w3 ⟨rfl, l3⟩; have S1 := Lib.hid (rows_keep l3 S0.out); clear l3 S0
  go_wp2_with fail
  (with_reducible refine (K4.out _).mono ?_); rintro _ w4 ⟨rfl, l4⟩; have S2 := Lib.hid (rows_keep l4 S1.out); clear l4 S1
  go_wp2_with fail
  go_region_held3 (fun W => Below w.heap.size w W ∧ ArrI W 26 (g) (rowF a) ∧ ArrI W 26 (g + 1) (rowF b) ∧ W.cell? ⟨g, 0, none⟩ = some (.int .i64 (rowF a 0)) ∧ W.cell? ⟨g, 1, none⟩ = some (.int .i64 (rowF a 1)) ∧ W.cell? ⟨g, 2, none⟩ = some (.int .i64 (rowF a 2)) ∧ W.cell? ⟨g, 3, none⟩ = some (.int .i64 (rowF a 3)) ∧ W.cell? ⟨g, 4, none⟩ = some (.int .i64 (rowF a 4)) ∧ W.cell? ⟨g, 5, none⟩ = some (.int .i64 (rowF a 5)) ∧ W.cell? ⟨g, 6, none⟩ = some (.int .i64 (rowF a 6)) ∧ W.cell? ⟨g, 7, none⟩ = some (.int .i64 (rowF a 7)) ∧ W.cell? ⟨g + 1, 0, none⟩ = some (.int .i64 (rowF b 0)) ∧ W.cell? ⟨g + 1, 1, none⟩ = some (.int .i64 (rowF b 1)) ∧ W.cell? ⟨g + 1, 2, none⟩ = some (.int .i64 (rowF b 2)) ∧ W.cell? ⟨g + 1, 3, none⟩ = some (.int .i64 (rowF b 3)) ∧ W.cell? ⟨g + 1, 4, none⟩ = some (.int .i64 (rowF b 4)) ∧ W.cell? ⟨g + 1, 5, none⟩ = some (.int .i64 (rowF b 5)) ∧ W.cell? ⟨g + 1, 6, none⟩ = some (.int .i64 (rowF b 6)) ∧ W.cell? ⟨g + 1, 7, none⟩ = some (.int .i64 (rowF b 7))) (first
    | assumption
    | exact S2.out
    | exact rows_s S2.out.1.drew S2.out.2.1.drew S2.out.2.2.1.drew) (first
    | (go_at_call 31; (with_reducible refine (K5.out _).mono ?_); rintro e w' ⟨rfl, l1⟩; have hS := rows_keep l1 (by first | assumption | exact S2.out | exact rows_s S2.out.1.drew S2.out.2.1.drew S2.out.2.2.1.drew); clear l1)
    | (go_at_call 32; (with_reducible refine (K6.out _).mono ?_); rintro e w' ⟨rfl, l1⟩; have hS := rows_keep l1 (by assumption); clear l1)
    | (go_at_call 15; (with_reducible refine (K7.out _).mono ?_); rintro e w' ⟨rfl, l1⟩; have hS := rows_keep l1 (by assumption); clear l1)
    | (go_at_call 15; (with_reducible refine (K8.out _).mono ?_); rintro e w' ⟨rfl, l1⟩; have hS := rows_keep l1 (by assumption); clear l1)
    | (go_at_call 29; (with_reducible refine (K3.out _).mono ?_); rintro e w' ⟨rfl, l1⟩; have hS := rows_keep l1 (by assumption); clear l1)
    | (go_at_call 27; (with_reducible refine (K9.out _).mono ?_); rintro e w' ⟨rfl, l1⟩; have hS := rows_keep l1 (by assumption); clear l1))
  go_wp2
  go_ret
  exact ⟨rfl, by first | exact hS.1 | exact hS.1.drew⟩
end Go.Proofs.Ytdpgoddhchoefaa
