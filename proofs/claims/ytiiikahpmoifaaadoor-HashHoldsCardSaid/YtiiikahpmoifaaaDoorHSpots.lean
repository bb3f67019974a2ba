/- HashSpots: the walk. -/
import Derived.Test.YtiiikahpmoifaaaDoorHCover
import Derived.Test.YtiiikahpmoifaaaDoorHRef2
namespace Go.Proofs.YtiiikahpmoifaaaDoor
open Go.RowKit
set_option linter.unusedVariables false
set_option linter.unusedSimpArgs false

open Go.Shelf
attribute [local go_sem] Oper.semAt_some
set_option maxHeartbeats 4000000 in
theorem cover_no (r : Rc) (hr : ¬ MayR r) (m : Nat) (w : World) :
    Calls Tryd.prog 13 #[.agg #[.int .i64 r.x0, .int .i64 r.y0, .int .i64 r.x1, .int .i64 r.y1], .int .i64 (m : Nat)] w fun e w' => e = .returned (.slice none 0 0) ∧ Below w.heap.size w w' := by
  have KM := Lib.hid (mayRect_any r (w.alloc (.cells #[.int .i64 r.x0, .int .i64 r.y0, .int .i64 r.x1, .int .i64 r.y1] 32)))
  rw [show mayRB r = false from decide_eq_false hr] at KM
  have HB0 := Lib.hid ((Below.refl w.heap.size w).alloc (Nat.le_refl _) (.cells #[.int .i64 r.x0, .int .i64 r.y0, .int .i64 r.x1, .int .i64 r.y1] 32))
  clear hr
  go_enter Tryd.func13, Tryd.ntmps13
  go_wp2_with (go_at_call 16; refine KM.out.mono ?_; rintro _ w1 ⟨rfl, l1⟩; have L1 := Lib.hid l1; clear l1)
  go_ret
  exact ⟨rfl, HB0.out.trans (L1.out.mono (by simp))⟩
/-- Ranges as a reader sees them. -/
theorem own_rd {W : World} {base : Nat} {v : Value} {L : List Rg} (hL : L ≠ []) (h : W.ownsRow base 38 2 v L.length (rowR L)) : ∃ g cp, v = .slice (some ⟨g, 0, none⟩) L.length cp ∧ RdG W g 0 L := by
  rcases h.2 with ⟨_, h0⟩ | ⟨g, cap, cur, hv, _⟩
  · exact absurd (List.eq_nil_of_length_eq_zero h0) hL
  · subst hv
    refine ⟨g, cap, rfl, fun i r hi => ?_⟩
    have hil := (List.getElem?_eq_some_iff.1 hi).1
    have c : ∀ j, j < 2 → W.cell? ⟨g, i * 2 + j, none⟩ = (encC r)[j]? := fun j hj => by
      have := World.ownsRow.cellAt (w := W) (base := base) (e := 38) (size := 2) h (i * 2 + j) (by omega)
      rw [this]
      exact rowR_at L i r hi j hj
    rw [Nat.zero_add]
    exact ⟨c 0 (by omega), c 1 (by omega)⟩
set_option maxRecDepth 100000 in
set_option maxHeartbeats 8000000 in
theorem hashSpots_walk (p : Pt) (t : Nat) (ht : t < 256) (w : World) (hm : MaskT w) :
    Calls Tryd.prog 7 #[.agg #[.int .i64 p.x, .int .i64 p.y], .int .u8 (t : Nat)] w fun e w' => e = .returned (.bool true) ∧ Below w.heap.size w w' := by
  have HM := Lib.hid hm
  have HB0 := Lib.hid ((Below.refl w.heap.size w).alloc (Nat.le_refl _) (.cells #[.int .i64 p.x, .int .i64 p.y] 23))
  have KC := Lib.hid fun V h => code_any p V h
  have KA := Lib.hid fun V h => awake_any V h
  obtain ⟨n, hn⟩ : ∃ n, t % 64 + 1 = n := ⟨_, rfl⟩
  have hn1 : 1 ≤ n := by omega
  have hn2 : n ≤ 64 := by omega
  have hni : (t : Int) % 64 + 1 = (n : Int) := by omega
  have hnt : ((t : Int).tmod 64) + 1 = (n : Int) := by rw [Int.tmod_eq_emod_of_nonneg (by omega)]; exact hni
  by_cases hp : MayP p
  · have hr : MayR ⟨p.x, p.y, p.x, p.y⟩ := ⟨hp, hp, Int.le_refl _, Int.le_refl _⟩
    have KV := Lib.hid fun V h => cover_any ⟨p.x, p.y, p.x, p.y⟩ hr n hn1 hn2 V h
    rw [show mayB p = true from decide_eq_true hp] at KC
    have hcv : codeV p = mixN (p.x + 1800000000).toNat (p.y + 900000000).toNat 32 := by unfold codeV codeN; rw [if_pos hp]
    have HCv := Lib.hid hcv
    obtain ⟨c, hc⟩ : ∃ c, codeV p = c := ⟨_, rfl⟩
    rw [hc] at KC
    have HC := Lib.hid hc
    clear hm hr hcv hc hn
    go_enter Tryd.func7, Tryd.ntmps7
    go_wp2_with fail
    (with_reducible refine (KV.out _ (HM.out.below HB0.out)).mono ?_); rintro _ w1 ⟨⟨v, L, rfl, hcov, hown⟩, l1⟩
    have hL : L = [(c, c)] := by
      rw [← HC.out, HCv.out]
      exact cover_spot hn1 hcov
    subst hL
    obtain ⟨g, cp, rfl, hg⟩ := own_rd (by simp) hown
    obtain ⟨g0, g1⟩ := hg 0 (c, c) rfl
    have L1 := Lib.hid (HB0.out.trans (l1.mono (by simp)))
    obtain ⟨hc, hf⟩ := bcell l1
    have c0 : w1.cell? ⟨w.heap.size, 0, none⟩ = some (.int .i64 p.x) := by go_simp
    have c1 : w1.cell? ⟨w.heap.size, 1, none⟩ = some (.int .i64 p.y) := by go_simp
    clear l1 hc hf hown hcov hg KV HCv
    simp only [Nat.zero_mul, Nat.zero_add] at g0 g1
    go_wp2_with fail
    (with_reducible refine (KC.out _ (HM.out.below L1.out)).mono ?_); rintro _ w2 ⟨rfl, l2⟩
    have L2 := Lib.hid (below2' L1.out l2)
    have d0 := kp' l2 (cell_lt' g0) g0
    have d1 := kp' l2 (cell_lt' g1) g1
    clear l2 g0 g1 c0 c1 KC
    go_wp2_with fail
    (with_reducible refine (KA.out _ (HM.out.below L2.out)).mono ?_); rintro _ w3 ⟨rfl, l3⟩
    have L3 := Lib.hid (below2' L2.out l3)
    clear l3
    go_wp2_with fail
    go_ret
    exact ⟨rfl, L3.out⟩
  · have hr : ¬ MayR ⟨p.x, p.y, p.x, p.y⟩ := fun h => hp h.1
    have KV := Lib.hid fun V => cover_no ⟨p.x, p.y, p.x, p.y⟩ hr n V
    rw [show mayB p = false from decide_eq_false hp] at KC
    obtain ⟨c, hc⟩ : ∃ c, codeV p = c := ⟨_, rfl⟩
    rw [hc] at KC
    clear hm hr hc hn
    go_enter Tryd.func7, Tryd.ntmps7
    go_wp2_with fail
    (with_reducible refine (KV.out _).mono ?_); rintro _ w1 ⟨rfl, l1⟩
    have L1 := Lib.hid (HB0.out.trans (l1.mono (by simp)))
    obtain ⟨hc, hf⟩ := bcell l1
    have c0 : w1.cell? ⟨w.heap.size, 0, none⟩ = some (.int .i64 p.x) := by go_simp
    have c1 : w1.cell? ⟨w.heap.size, 1, none⟩ = some (.int .i64 p.y) := by go_simp
    clear l1 hc hf KV
    go_wp2_with fail
    (with_reducible refine (KC.out _ (HM.out.below L1.out)).mono ?_); rintro _ w2 ⟨rfl, l2⟩
    have L2 := Lib.hid (below2' L1.out l2)
    clear l2 c0 c1 KC
    go_wp2_with fail
    (with_reducible refine (KA.out _ (HM.out.below L2.out)).mono ?_); rintro _ w3 ⟨rfl, l3⟩
    have L3 := Lib.hid (below2' L2.out l3)
    clear l3
    go_wp2_with fail
    go_ret
    exact ⟨rfl, L3.out⟩
end Go.Proofs.YtiiikahpmoifaaaDoor
