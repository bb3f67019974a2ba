/- score: the law ScoreTells walked. -/
import Derived.Test.YtcacfidejhmieaaAAlways
namespace Go.Proofs.Ytcacfidejhmieaa
open Go.RowKit
set_option linter.unusedVariables false
set_option linter.unusedSimpArgs false

open Go.Shelf
attribute [local go_sem] Oper.semAt_some
abbrev Box6 (w : World) (T L tf len : Int) (W : World) : Prop := Below w.heap.size w W ∧ W.cell? ⟨w.heap.size, 0, none⟩ = some (.int .i64 T) ∧ W.cell? ⟨w.heap.size, 1, none⟩ = some (.int .i64 L) ∧ W.cell? ⟨w.heap.size + 1, 0, none⟩ = some (.int .i64 tf) ∧ W.cell? ⟨w.heap.size + 1, 1, none⟩ = some (.int .i64 len) ∧ W.cell? ⟨w.heap.size + 1 + 1, 0, none⟩ = some (.int .i64 T) ∧ W.cell? ⟨w.heap.size + 1 + 1, 1, none⟩ = some (.int .i64 L)
theorem box6_drew {w W : World} {T L tf len : Int} (h : Box6 w T L tf len W) : Box6 w T L tf len W.drew := ⟨h.1.drew, h.2⟩
theorem box6_keep {w W W' : World} {T L tf len : Int} (h : Box6 w T L tf len W) (hb : Below W.heap.size W W') : Box6 w T L tf len W' := by
  obtain ⟨h0, h1, h2, h3, h4, h5, h6⟩ := h
  exact ⟨h0.trans (hb.mono h0.size), bcell hb h1 (cell_in h1), bcell hb h2 (cell_in h2), bcell hb h3 (cell_in h3), bcell hb h4 (cell_in h4), bcell hb h5 (cell_in h5), bcell hb h6 (cell_in h6)⟩
set_option maxHeartbeats 8000000 in
theorem scoreTells_yes (T L df tf len : Int) (hr1 : knownB T df = true) (hr2 : countedB T L tf len = true) (w : World) : Calls Try.prog 4 #[.agg #[.int .i64 T, .int .i64 L], .int .i64 df, .agg #[.int .i64 tf, .int .i64 len]] w fun e w' => e = .returned (.bool true) ∧ Below w.heap.size w w' := by
  have HK := Lib.hid (refKnown_is hr1 L)
  have HC := Lib.hid (refCounted_is hr2)
  have HW := Lib.hid (refWeight_any T L df)
  have HS := Lib.hid (refShare_any T L tf len)
  have HW2 := Lib.hid (weight_any T L df)
  have HS2 := Lib.hid (share_any T L tf len)
  have HR := Lib.hid (right_is (v := true) (T := T) (L := L) (df := df) (tf := tf) (len := len) (by unfold rightB; rw [hr1, hr2]; rfl))
  have hbd := score_bd T L df tf len
  have HSc := Lib.hid (score_is (T := T) (L := L) (df := df) (tf := tf) (len := len) (v := IntKind.i64.wrap (weightV T df * shareV T L tf len)) (by unfold scoreV at hbd ⊢; exact (IntWalk.i64_in _ (by omega)).symm))
  clear hr1 hr2 hbd
  generalize weightV T df = wv at *
  generalize shareV T L tf len = sv at *
  go_enter Try.func4, Try.ntmps4
  go_upto_region 2 with (fail)
  have SB : Box6 w T L tf len (((w.alloc (.cells #[.int .i64 T, .int .i64 L] 27)).alloc (.cells #[.int .i64 tf, .int .i64 len] 28)).alloc (.cells #[.int .i64 T, .int .i64 L] 29)) := ⟨(((Below.refl _ _).alloc (Nat.le_refl _) _).alloc (by simp) _).alloc (by simp; omega) _, by go_simp, by go_simp, by go_simp, by go_simp, by go_simp, by go_simp⟩
  obtain ⟨_, c1, c2, c3, c4, c5, c6⟩ := id SB
  generalize (((w.alloc (.cells #[.int .i64 T, .int .i64 L] 27)).alloc (.cells #[.int .i64 tf, .int .i64 len] 28)).alloc (.cells #[.int .i64 T, .int .i64 L] 29)) = B at SB c1 c2 c3 c4 c5 c6 ⊢
  have SB0 := Lib.hid SB
  clear SB
  go_upto_region 5 with (first
    | (go_at_call 11; (with_reducible refine (HK.out _).mono ?_); rintro e w1 ⟨rfl, l0⟩; have SB1 := Lib.hid (box6_keep SB0.out l0); obtain ⟨_, d1, d2, d3, d4, d5, d6⟩ := id SB1.out; clear l0)
    | (go_at_call 12; (with_reducible refine (HC.out _).mono ?_); rintro e w2 ⟨rfl, l0⟩; have SB2 := Lib.hid (box6_keep SB1.out l0); clear l0))
  clear c1 c2 c3 c4 c5 c6 d1 d2 d3 d4 d5 d6
  go_region_held3 (fun W => Below w.heap.size w W ∧ W.cell? ⟨w.heap.size, 0, none⟩ = some (.int .i64 T) ∧ W.cell? ⟨w.heap.size, 1, none⟩ = some (.int .i64 L) ∧ W.cell? ⟨w.heap.size + 1, 0, none⟩ = some (.int .i64 tf) ∧ W.cell? ⟨w.heap.size + 1, 1, none⟩ = some (.int .i64 len) ∧ W.cell? ⟨w.heap.size + 1 + 1, 0, none⟩ = some (.int .i64 T) ∧ W.cell? ⟨w.heap.size + 1 + 1, 1, none⟩ = some (.int .i64 L)) (repeat (first | with_reducible assumption | with_reducible exact SB2.out | with_reducible refine box6_drew ?_)) (first | (go_at_call 13; (with_reducible refine (HW.out _).mono ?_); rintro e w3 ⟨rfl, l0⟩; have hS3 := box6_keep (w := w) (T := T) (L := L) (tf := tf) (len := len) (by repeat (first | with_reducible assumption | with_reducible exact SB2.out | with_reducible refine box6_drew ?_)) l0; clear l0) | (go_at_call 14; (with_reducible refine (HS.out _).mono ?_); rintro e w4 ⟨rfl, l0⟩; have hS4 := box6_keep (w := w) (T := T) (L := L) (tf := tf) (len := len) (by repeat (first | with_reducible assumption | with_reducible exact SB2.out | with_reducible refine box6_drew ?_)) l0; clear l0))
  have SB4 := Lib.hid hS4
  clear hS3 hS4
  go_wp2_with fail
  have HAw := Lib.hid awake_any
  generalize IntKind.i64.wrap (wv * sv) = sc at *
  go_region_held3 (fun W => Below w.heap.size w W ∧ W.cell? ⟨w.heap.size, 0, none⟩ = some (.int .i64 T) ∧ W.cell? ⟨w.heap.size, 1, none⟩ = some (.int .i64 L) ∧ W.cell? ⟨w.heap.size + 1, 0, none⟩ = some (.int .i64 tf) ∧ W.cell? ⟨w.heap.size + 1, 1, none⟩ = some (.int .i64 len) ∧ W.cell? ⟨w.heap.size + 1 + 1, 0, none⟩ = some (.int .i64 T) ∧ W.cell? ⟨w.heap.size + 1 + 1, 1, none⟩ = some (.int .i64 L)) (repeat (first | with_reducible assumption | with_reducible exact SB4.out | with_reducible refine box6_drew ?_)) (first
    | (go_at_call 15; (with_reducible refine (HW2.out _).mono ?_); rintro e w5 ⟨rfl, l0⟩; have hS5 := box6_keep (w := w) (T := T) (L := L) (tf := tf) (len := len) (by repeat (first | with_reducible assumption | with_reducible exact SB4.out | with_reducible refine box6_drew ?_)) l0; clear l0)
    | (go_at_call 13; (with_reducible refine (HW.out _).mono ?_); rintro e w6 ⟨rfl, l0⟩; have hS6 := box6_keep (w := w) (T := T) (L := L) (tf := tf) (len := len) (by repeat (first | with_reducible assumption | with_reducible exact SB4.out | with_reducible refine box6_drew ?_)) l0; clear l0)
    | (go_at_call 16; (with_reducible refine (HS2.out _).mono ?_); rintro e w7 ⟨rfl, l0⟩; have hS7 := box6_keep (w := w) (T := T) (L := L) (tf := tf) (len := len) (by repeat (first | with_reducible assumption | with_reducible exact SB4.out | with_reducible refine box6_drew ?_)) l0; clear l0)
    | (go_at_call 14; (with_reducible refine (HS.out _).mono ?_); rintro e w8 ⟨rfl, l0⟩; have hS8 := box6_keep (w := w) (T := T) (L := L) (tf := tf) (len := len) (by repeat (first | with_reducible assumption | with_reducible exact SB4.out | with_reducible refine box6_drew ?_)) l0; clear l0)
    | (go_at_call 17; (with_reducible refine (HSc.out _).mono ?_); rintro e w9 ⟨rfl, l0⟩; have hS9 := box6_keep (w := w) (T := T) (L := L) (tf := tf) (len := len) (by repeat (first | with_reducible assumption | with_reducible exact SB4.out | with_reducible refine box6_drew ?_)) l0; clear l0)
    | (go_at_call 18; (with_reducible refine (HR.out _).mono ?_); rintro e w10 ⟨rfl, l0⟩; have hS10 := box6_keep (w := w) (T := T) (L := L) (tf := tf) (len := len) (by repeat (first | with_reducible assumption | with_reducible exact SB4.out | with_reducible refine box6_drew ?_)) l0; clear l0)
    | (go_at_call 10; (with_reducible refine (HAw.out _).mono ?_); rintro e w11 ⟨rfl, l0⟩; have hS11 := box6_keep (w := w) (T := T) (L := L) (tf := tf) (len := len) (by repeat (first | with_reducible assumption | with_reducible exact SB4.out | with_reducible refine box6_drew ?_)) l0; clear l0))
  have SB11 := Lib.hid hS11
  clear hS5 hS6 hS7 hS8 hS9 hS10 hS11
  go_wp2_with fail
  go_ret
  exact ⟨rfl, SB11.out.1⟩
set_option maxHeartbeats 16000000 in
theorem scoreTells_no (T L df tf len : Int) (hr : rightB T L df tf len = false) (w : World) : Calls Try.prog 4 #[.agg #[.int .i64 T, .int .i64 L], .int .i64 df, .agg #[.int .i64 tf, .int .i64 len]] w fun e w' => e = .returned (.bool true) ∧ Below w.heap.size w w' := by
  have HW := Lib.hid (refWeight_any T L df)
  have HS := Lib.hid (refShare_any T L tf len)
  have HW2 := Lib.hid (weight_any T L df)
  have HS2 := Lib.hid (share_any T L tf len)
  have HR := Lib.hid (right_is hr)
  have HSc := Lib.hid (score_is (score_wrong hr))
  generalize weightV T df = wv at *
  generalize shareV T L tf len = sv at *
  cases hr1 : knownB T df with
  | false =>
    have HK := Lib.hid (refKnown_is hr1 L)
    have HC := HK
    clear hr hr1
    go_enter Try.func4, Try.ntmps4
    go_upto_region 2 with (fail)
    have SB : Box6 w T L tf len (((w.alloc (.cells #[.int .i64 T, .int .i64 L] 27)).alloc (.cells #[.int .i64 tf, .int .i64 len] 28)).alloc (.cells #[.int .i64 T, .int .i64 L] 29)) := ⟨(((Below.refl _ _).alloc (Nat.le_refl _) _).alloc (by simp) _).alloc (by simp; omega) _, by go_simp, by go_simp, by go_simp, by go_simp, by go_simp, by go_simp⟩
    obtain ⟨_, c1, c2, c3, c4, c5, c6⟩ := id SB
    generalize (((w.alloc (.cells #[.int .i64 T, .int .i64 L] 27)).alloc (.cells #[.int .i64 tf, .int .i64 len] 28)).alloc (.cells #[.int .i64 T, .int .i64 L] 29)) = B at SB c1 c2 c3 c4 c5 c6 ⊢
    have SB0 := Lib.hid SB
    clear SB
    go_upto_region 6 with (first
      | (go_at_call 11; (with_reducible refine (HK.out _).mono ?_); rintro e w1 ⟨rfl, l0⟩; have SB1 := Lib.hid (box6_keep SB0.out l0); obtain ⟨_, d1, d2, d3, d4, d5, d6⟩ := id SB1.out; clear l0)
      | (go_at_call 12; (with_reducible refine (HC.out _).mono ?_); rintro e w2 ⟨rfl, l0⟩; have SB2 := Lib.hid (box6_keep SB1.out l0); clear l0))
    clear c1 c2 c3 c4 c5 c6 d1 d2 d3 d4 d5 d6
    have SB4 := SB1
    have HAw := Lib.hid awake_any
    go_region_held3 (fun W => Below w.heap.size w W ∧ W.cell? ⟨w.heap.size, 0, none⟩ = some (.int .i64 T) ∧ W.cell? ⟨w.heap.size, 1, none⟩ = some (.int .i64 L) ∧ W.cell? ⟨w.heap.size + 1, 0, none⟩ = some (.int .i64 tf) ∧ W.cell? ⟨w.heap.size + 1, 1, none⟩ = some (.int .i64 len) ∧ W.cell? ⟨w.heap.size + 1 + 1, 0, none⟩ = some (.int .i64 T) ∧ W.cell? ⟨w.heap.size + 1 + 1, 1, none⟩ = some (.int .i64 L)) (repeat (first | with_reducible assumption | with_reducible exact SB4.out | with_reducible refine box6_drew ?_)) (first
      | (go_at_call 15; (with_reducible refine (HW2.out _).mono ?_); rintro e w5 ⟨rfl, l0⟩; have hS5 := box6_keep (w := w) (T := T) (L := L) (tf := tf) (len := len) (by repeat (first | with_reducible assumption | with_reducible exact SB4.out | with_reducible refine box6_drew ?_)) l0; clear l0)
      | (go_at_call 13; (with_reducible refine (HW.out _).mono ?_); rintro e w6 ⟨rfl, l0⟩; have hS6 := box6_keep (w := w) (T := T) (L := L) (tf := tf) (len := len) (by repeat (first | with_reducible assumption | with_reducible exact SB4.out | with_reducible refine box6_drew ?_)) l0; clear l0)
      | (go_at_call 16; (with_reducible refine (HS2.out _).mono ?_); rintro e w7 ⟨rfl, l0⟩; have hS7 := box6_keep (w := w) (T := T) (L := L) (tf := tf) (len := len) (by repeat (first | with_reducible assumption | with_reducible exact SB4.out | with_reducible refine box6_drew ?_)) l0; clear l0)
      | (go_at_call 14; (with_reducible refine (HS.out _).mono ?_); rintro e w8 ⟨rfl, l0⟩; have hS8 := box6_keep (w := w) (T := T) (L := L) (tf := tf) (len := len) (by repeat (first | with_reducible assumption | with_reducible exact SB4.out | with_reducible refine box6_drew ?_)) l0; clear l0)
      | (go_at_call 17; (with_reducible refine (HSc.out _).mono ?_); rintro e w9 ⟨rfl, l0⟩; have hS9 := box6_keep (w := w) (T := T) (L := L) (tf := tf) (len := len) (by repeat (first | with_reducible assumption | with_reducible exact SB4.out | with_reducible refine box6_drew ?_)) l0; clear l0)
      | (go_at_call 18; (with_reducible refine (HR.out _).mono ?_); rintro e w10 ⟨rfl, l0⟩; have hS10 := box6_keep (w := w) (T := T) (L := L) (tf := tf) (len := len) (by repeat (first | with_reducible assumption | with_reducible exact SB4.out | with_reducible refine box6_drew ?_)) l0; clear l0)
      | (go_at_call 10; (with_reducible refine (HAw.out _).mono ?_); rintro e w11 ⟨rfl, l0⟩; have hS11 := box6_keep (w := w) (T := T) (L := L) (tf := tf) (len := len) (by repeat (first | with_reducible assumption | with_reducible exact SB4.out | with_reducible refine box6_drew ?_)) l0; clear l0))
    have SB11 := Lib.hid hS11
    clear hS5 hS6 hS7 hS8 hS9 hS10 hS11
    go_wp2_with fail
    go_ret
    exact ⟨rfl, SB11.out.1⟩
  | true =>
    have hr2 : countedB T L tf len = false := by unfold rightB at hr; rw [hr1, Bool.true_and] at hr; exact hr
    have HK := Lib.hid (refKnown_is hr1 L)
    have HC := Lib.hid (refCounted_is hr2)
    clear hr hr1 hr2
    go_enter Try.func4, Try.ntmps4
    go_upto_region 2 with (fail)
    have SB : Box6 w T L tf len (((w.alloc (.cells #[.int .i64 T, .int .i64 L] 27)).alloc (.cells #[.int .i64 tf, .int .i64 len] 28)).alloc (.cells #[.int .i64 T, .int .i64 L] 29)) := ⟨(((Below.refl _ _).alloc (Nat.le_refl _) _).alloc (by simp) _).alloc (by simp; omega) _, by go_simp, by go_simp, by go_simp, by go_simp, by go_simp, by go_simp⟩
    obtain ⟨_, c1, c2, c3, c4, c5, c6⟩ := id SB
    generalize (((w.alloc (.cells #[.int .i64 T, .int .i64 L] 27)).alloc (.cells #[.int .i64 tf, .int .i64 len] 28)).alloc (.cells #[.int .i64 T, .int .i64 L] 29)) = B at SB c1 c2 c3 c4 c5 c6 ⊢
    have SB0 := Lib.hid SB
    clear SB
    go_upto_region 6 with (first
      | (go_at_call 11; (with_reducible refine (HK.out _).mono ?_); rintro e w1 ⟨rfl, l0⟩; have SB1 := Lib.hid (box6_keep SB0.out l0); obtain ⟨_, d1, d2, d3, d4, d5, d6⟩ := id SB1.out; clear l0)
      | (go_at_call 12; (with_reducible refine (HC.out _).mono ?_); rintro e w2 ⟨rfl, l0⟩; have SB2 := Lib.hid (box6_keep SB1.out l0); clear l0))
    clear c1 c2 c3 c4 c5 c6 d1 d2 d3 d4 d5 d6
    have SB4 := SB2
    have HAw := Lib.hid awake_any
    go_region_held3 (fun W => Below w.heap.size w W ∧ W.cell? ⟨w.heap.size, 0, none⟩ = some (.int .i64 T) ∧ W.cell? ⟨w.heap.size, 1, none⟩ = some (.int .i64 L) ∧ W.cell? ⟨w.heap.size + 1, 0, none⟩ = some (.int .i64 tf) ∧ W.cell? ⟨w.heap.size + 1, 1, none⟩ = some (.int .i64 len) ∧ W.cell? ⟨w.heap.size + 1 + 1, 0, none⟩ = some (.int .i64 T) ∧ W.cell? ⟨w.heap.size + 1 + 1, 1, none⟩ = some (.int .i64 L)) (repeat (first | with_reducible assumption | with_reducible exact SB4.out | with_reducible refine box6_drew ?_)) (first
      | (go_at_call 15; (with_reducible refine (HW2.out _).mono ?_); rintro e w5 ⟨rfl, l0⟩; have hS5 := box6_keep (w := w) (T := T) (L := L) (tf := tf) (len := len) (by repeat (first | with_reducible assumption | with_reducible exact SB4.out | with_reducible refine box6_drew ?_)) l0; clear l0)
      | (go_at_call 13; (with_reducible refine (HW.out _).mono ?_); rintro e w6 ⟨rfl, l0⟩; have hS6 := box6_keep (w := w) (T := T) (L := L) (tf := tf) (len := len) (by repeat (first | with_reducible assumption | with_reducible exact SB4.out | with_reducible refine box6_drew ?_)) l0; clear l0)
      | (go_at_call 16; (with_reducible refine (HS2.out _).mono ?_); rintro e w7 ⟨rfl, l0⟩; have hS7 := box6_keep (w := w) (T := T) (L := L) (tf := tf) (len := len) (by repeat (first | with_reducible assumption | with_reducible exact SB4.out | with_reducible refine box6_drew ?_)) l0; clear l0)
      | (go_at_call 14; (with_reducible refine (HS.out _).mono ?_); rintro e w8 ⟨rfl, l0⟩; have hS8 := box6_keep (w := w) (T := T) (L := L) (tf := tf) (len := len) (by repeat (first | with_reducible assumption | with_reducible exact SB4.out | with_reducible refine box6_drew ?_)) l0; clear l0)
      | (go_at_call 17; (with_reducible refine (HSc.out _).mono ?_); rintro e w9 ⟨rfl, l0⟩; have hS9 := box6_keep (w := w) (T := T) (L := L) (tf := tf) (len := len) (by repeat (first | with_reducible assumption | with_reducible exact SB4.out | with_reducible refine box6_drew ?_)) l0; clear l0)
      | (go_at_call 18; (with_reducible refine (HR.out _).mono ?_); rintro e w10 ⟨rfl, l0⟩; have hS10 := box6_keep (w := w) (T := T) (L := L) (tf := tf) (len := len) (by repeat (first | with_reducible assumption | with_reducible exact SB4.out | with_reducible refine box6_drew ?_)) l0; clear l0)
      | (go_at_call 10; (with_reducible refine (HAw.out _).mono ?_); rintro e w11 ⟨rfl, l0⟩; have hS11 := box6_keep (w := w) (T := T) (L := L) (tf := tf) (len := len) (by repeat (first | with_reducible assumption | with_reducible exact SB4.out | with_reducible refine box6_drew ?_)) l0; clear l0))
    have SB11 := Lib.hid hS11
    clear hS5 hS6 hS7 hS8 hS9 hS10 hS11
    go_wp2_with fail
    go_ret
    exact ⟨rfl, SB11.out.1⟩
theorem scoreTells_walk (T L df tf len : Int) (w : World) : Calls Try.prog 4 #[.agg #[.int .i64 T, .int .i64 L], .int .i64 df, .agg #[.int .i64 tf, .int .i64 len]] w fun e w' => e = .returned (.bool true) ∧ Below w.heap.size w w' := by
  cases h : rightB T L df tf len with
  | false => exact scoreTells_no T L df tf len h w
  | true =>
    unfold rightB at h
    rw [Bool.and_eq_true] at h
    exact scoreTells_yes T L df tf len h.1 h.2 w
end Go.Proofs.Ytcacfidejhmieaa
