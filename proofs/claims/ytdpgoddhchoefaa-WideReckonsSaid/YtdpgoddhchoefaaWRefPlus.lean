/- The document's Plus and Less: the walks. -/
import Derived.Test.YtdpgoddhchoefaaWRefInt
namespace Go.Proofs.Ytdpgoddhchoefaa
open Go.RowKit
set_option linter.unusedVariables false

theorem rowV_congr {a b : Int} (h : ∀ i, i < 8 → rowF a i = rowF b i) : rowV a = rowV b := by
  unfold rowV
  rw [h 0 (by omega), h 1 (by omega), h 2 (by omega), h 3 (by omega), h 4 (by omega), h 5 (by omega), h 6 (by omega), h 7 (by omega)]
set_option maxRecDepth 100000 in
set_option maxHeartbeats 4000000 in
theorem refPlus_any (x y : Int) (w : World) : Calls Try.prog 17 #[.agg #[.int .i64 (rowF x 0), .int .i64 (rowF x 1), .int .i64 (rowF x 2), .int .i64 (rowF x 3), .int .i64 (rowF x 4), .int .i64 (rowF x 5), .int .i64 (rowF x 6), .int .i64 (rowF x 7)], .agg #[.int .i64 (rowF y 0), .int .i64 (rowF y 1), .int .i64 (rowF y 2), .int .i64 (rowF y 3), .int .i64 (rowF y 4), .int .i64 (rowF y 5), .int .i64 (rowF y 6), .int .i64 (rowF y 7)]] w fun e w' => e = .returned (rowV (x + y)) ∧ Below w.heap.size w w' := by
  have kc := fun W => carry_any (fun i => rowF x i + rowF y i) (fun i hi => by have := rowF_bd x i; have := rowF_bd y i; show -17592186044416 ≤ rowF x i + rowF y i ∧ rowF x i + rowF y i ≤ 17592186044416; omega) W
  rw [rowV_congr (fun i hi => row_plus x y i hi)] at kc
  unfold rowV at kc
  have KC := Lib.hid kc
  clear kc
  obtain ⟨b0, hb0⟩ : ∃ b0, b0 = ((w.alloc (.cells #[.int .i64 (rowF x 0), .int .i64 (rowF x 1), .int .i64 (rowF x 2), .int .i64 (rowF x 3), .int .i64 (rowF x 4), .int .i64 (rowF x 5), .int .i64 (rowF x 6), .int .i64 (rowF x 7)] 26)).alloc (.cells #[.int .i64 (rowF y 0), .int .i64 (rowF y 1), .int .i64 (rowF y 2), .int .i64 (rowF y 3), .int .i64 (rowF y 4), .int .i64 (rowF y 5), .int .i64 (rowF y 6), .int .i64 (rowF y 7)] 26)) := ⟨_, rfl⟩
  have hx0 := arrI_box w 26 (rowF x)
  have hy0 := arrI_box (w.alloc (.cells #[.int .i64 (rowF x 0), .int .i64 (rowF x 1), .int .i64 (rowF x 2), .int .i64 (rowF x 3), .int .i64 (rowF x 4), .int .i64 (rowF x 5), .int .i64 (rowF x 6), .int .i64 (rowF x 7)] 26)) 26 (rowF y)
  rw [World.size_alloc, ← hb0] at hy0
  have hx1 : ArrI b0 26 w.heap.size (rowF x) := by rw [hb0]; exact ArrI.keep hx0 ((Below.refl _ _).alloc (Nat.le_refl _) _) (by simp)
  have hs0 : b0.heap.size = w.heap.size + 1 + 1 := by rw [hb0]; simp
  have hl0 : Below w.heap.size w b0 := by rw [hb0]; exact ((Below.refl _ _).alloc (Nat.le_refl _) _).alloc (by simp) _
  have H0 := Lib.hid (And.intro hb0 (And.intro hx1 (And.intro hy0 (And.intro hs0 hl0))))
  clear hb0 hx0 hy0 hx1 hs0 hl0
  go_enter Try.func17, Try.ntmps17
  go_wp2
  go_loopw [6] (fun i wr => ∃ (k : Nat) (F : Nat → Int), i = .int .i64 k ∧ k ≤ 8 ∧ (∀ j, j < k → F j = rowF x j + rowF y j) ∧ ArrI wr 25 (w.heap.size + 1 + 1 + 1) F ∧ Below (w.heap.size + 1 + 1 + 1) (b0.alloc (.cells (Array.replicate 8 (.int .i64 0)) 26)) wr) (fun i _ => 8 - (intOf i).toNat)
  case atStart =>
    obtain ⟨hb0, hx0, hy0, hs0, hl0⟩ := H0.out
    refine ⟨0, fun _ => 0, rfl, by omega, fun j hj => by omega, ?_, ?_⟩
    · have h := arrI_start (b0.alloc (.cells (Array.replicate 8 (.int .i64 0)) 26)) 25
      rw [World.size_alloc, hs0] at h
      rw [hb0] at h
      exact h
    · rw [hb0]
      exact (Below.refl _ _).alloc (by simp) _
  case round =>
    obtain ⟨k, F, rfl, hk8, hfig, hF, hbel⟩ := hrel
    obtain ⟨wo, hwo⟩ : ∃ wo, wo = wr := ⟨_, rfl⟩
    subst hwo
    have HF := Lib.hid hF
    have HBel := Lib.hid hbel
    obtain ⟨hb0, hx0, hy0, hs0, hl0⟩ := H0.out
    have bb : Below b0.heap.size b0 (b0.alloc (.cells (Array.replicate 8 (.int .i64 0)) 26)) := (Below.refl _ _).alloc (Nat.le_refl _) _
    have hx1 := (ArrI.keep hx0 bb (by omega)).keep hbel (by omega)
    have hy1 := (ArrI.keep hy0 bb (by omega)).keep hbel (by omega)
    by_cases hk : k < 8
    · obtain ⟨p, hp⟩ : ∃ p, p = rowF x k := ⟨_, rfl⟩
      obtain ⟨q, hq⟩ : ∃ q, q = rowF y k := ⟨_, rfl⟩
      have hca : wo.cell? ⟨w.heap.size, k, none⟩ = some (.int .i64 p) := by rw [hp]; exact World.rowIs.cell hx1 (by omega)
      have hcb : wo.cell? ⟨w.heap.size + 1, k, none⟩ = some (.int .i64 q) := by rw [hq]; exact World.rowIs.cell hy1 (by omega)
      have pb : 0 ≤ p ∧ p < 65536 := by rw [hp]; exact rowF_bd _ _
      have qb : 0 ≤ q ∧ q < 65536 := by rw [hq]; exact rowF_bd _ _
      have hR : Hid (∀ j, j < k + 1 → updI F k (p + q) j = rowF x j + rowF y j) := Lib.hid fun j hj => by
        by_cases e : j = k
        · subst e; rw [upd_at, hp, hq]
        · rw [upd_off _ _ _ _ e]; exact hfig j (by omega)
      have hc1 : wo.cell? ⟨w.heap.size + 1 + 1 + 1, k, none⟩ = some (.int .i64 (F k)) := World.rowIs.cell hF (by omega)
      have hz1 : wo.frozen? ⟨w.heap.size + 1 + 1 + 1, k, none⟩ = false := World.rowIs.frozen hF _
      have hkI : (k : Int) < 8 := by omega
      have wq : IntKind.i64.wrap (p + q) = p + q := IntWalk.i64_in _ (by omega)
      clear hfig hF hbel hp hq hx1 hy1 bb hb0 hx0 hy0 hs0 hl0
      go_wp2
      go_region
      all_goals go_wp2
      all_goals go_roundw
      case rel => exact ⟨k + 1, updI F k (p + q), by go_num, by omega, hR.out, by first | exact World.rowIs.drew (ArrI.set HF.out k (p + q) _ rfl) | exact ArrI.set HF.out k (p + q) _ rfl, by first | exact (HBel.out.setCell (by simp) _).drew | exact HBel.out.setCell (by simp) _⟩
      case measure => simp [intOf]; omega
    · have hk4 : k = 8 := by omega
      subst hk4
      have hl1 := hl0.trans ((bb.mono (show w.heap.size ≤ b0.heap.size by omega)).trans (hbel.mono (by omega)))
      have HL1 := Lib.hid hl1
      obtain ⟨c0, c1, c2, c3, c4, c5, c6, c7⟩ := hF.cells hfig
      have hR0 := arrI_start b0 26
      rw [hs0] at hR0
      have hR : ArrI wo 26 (w.heap.size + 1 + 1) (fun _ => 0) := hR0.keep hbel (by omega)
      have hlt := World.rowIs.lt hF
      have HR := Lib.hid hR
      clear hfig hF hR hbel hb0 hx0 hy0 hs0 hl0 hR0 hx1 hy1 bb hl1
      go_wp2_with (go_at_call 64; (with_reducible refine (KC.out _).mono ?_); rintro e w3 ⟨rfl, l3⟩; have L3 := Lib.hid l3; have HR3 := Lib.hid (ArrI.keep HR.out l3 (by omega)); obtain ⟨r0, r1, r2, r3, r4, r5, r6, r7⟩ := HR3.out.cells (G := fun _ => 0) (fun _ _ => rfl); obtain ⟨z0, z1, z2, z3, z4, z5, z6, z7⟩ := HR3.out.free; clear l3)
      go_wp2
      have hE := HR3.out.eight (rowF (x + y))
      have lE := below_eight (HL1.out.trans (L3.out.mono HL1.out.size)) (show w.heap.size ≤ w.heap.size + 1 + 1 by omega) (rowF (x + y))
      generalize ((((((((w3.setCell ⟨w.heap.size + 1 + 1, 0, none⟩ (.int .i64 (rowF (x + y) 0))).setCell ⟨w.heap.size + 1 + 1, 1, none⟩ (.int .i64 (rowF (x + y) 1))).setCell ⟨w.heap.size + 1 + 1, 2, none⟩ (.int .i64 (rowF (x + y) 2))).setCell ⟨w.heap.size + 1 + 1, 3, none⟩ (.int .i64 (rowF (x + y) 3))).setCell ⟨w.heap.size + 1 + 1, 4, none⟩ (.int .i64 (rowF (x + y) 4))).setCell ⟨w.heap.size + 1 + 1, 5, none⟩ (.int .i64 (rowF (x + y) 5))).setCell ⟨w.heap.size + 1 + 1, 6, none⟩ (.int .i64 (rowF (x + y) 6))).setCell ⟨w.heap.size + 1 + 1, 7, none⟩ (.int .i64 (rowF (x + y) 7))) = W at hE lE ⊢
      obtain ⟨u0, u1, u2, u3, u4, u5, u6, u7⟩ := hE.cells (G := rowF (x + y)) fun _ _ => rfl
      exact bodyPost_ret (v := rowV (x + y)) (by simp [results, Try.results17, go_sem, rowV, u0, u1, u2, u3, u4, u5, u6, u7]) rfl ⟨rfl, lE⟩
set_option maxRecDepth 100000 in
set_option maxHeartbeats 4000000 in
theorem refLess_any (x y : Int) (w : World) : Calls Try.prog 19 #[.agg #[.int .i64 (rowF x 0), .int .i64 (rowF x 1), .int .i64 (rowF x 2), .int .i64 (rowF x 3), .int .i64 (rowF x 4), .int .i64 (rowF x 5), .int .i64 (rowF x 6), .int .i64 (rowF x 7)], .agg #[.int .i64 (rowF y 0), .int .i64 (rowF y 1), .int .i64 (rowF y 2), .int .i64 (rowF y 3), .int .i64 (rowF y 4), .int .i64 (rowF y 5), .int .i64 (rowF y 6), .int .i64 (rowF y 7)]] w fun e w' => e = .returned (rowV (x - y)) ∧ Below w.heap.size w w' := by
  have kc := fun W => carry_any (fun i => rowF x i - rowF y i) (fun i hi => by have := rowF_bd x i; have := rowF_bd y i; show -17592186044416 ≤ rowF x i - rowF y i ∧ rowF x i - rowF y i ≤ 17592186044416; omega) W
  rw [rowV_congr (fun i hi => row_less x y i hi)] at kc
  unfold rowV at kc
  have KC := Lib.hid kc
  clear kc
  obtain ⟨b0, hb0⟩ : ∃ b0, b0 = ((w.alloc (.cells #[.int .i64 (rowF x 0), .int .i64 (rowF x 1), .int .i64 (rowF x 2), .int .i64 (rowF x 3), .int .i64 (rowF x 4), .int .i64 (rowF x 5), .int .i64 (rowF x 6), .int .i64 (rowF x 7)] 26)).alloc (.cells #[.int .i64 (rowF y 0), .int .i64 (rowF y 1), .int .i64 (rowF y 2), .int .i64 (rowF y 3), .int .i64 (rowF y 4), .int .i64 (rowF y 5), .int .i64 (rowF y 6), .int .i64 (rowF y 7)] 26)) := ⟨_, rfl⟩
  have hx0 := arrI_box w 26 (rowF x)
  have hy0 := arrI_box (w.alloc (.cells #[.int .i64 (rowF x 0), .int .i64 (rowF x 1), .int .i64 (rowF x 2), .int .i64 (rowF x 3), .int .i64 (rowF x 4), .int .i64 (rowF x 5), .int .i64 (rowF x 6), .int .i64 (rowF x 7)] 26)) 26 (rowF y)
  rw [World.size_alloc, ← hb0] at hy0
  have hx1 : ArrI b0 26 w.heap.size (rowF x) := by rw [hb0]; exact ArrI.keep hx0 ((Below.refl _ _).alloc (Nat.le_refl _) _) (by simp)
  have hs0 : b0.heap.size = w.heap.size + 1 + 1 := by rw [hb0]; simp
  have hl0 : Below w.heap.size w b0 := by rw [hb0]; exact ((Below.refl _ _).alloc (Nat.le_refl _) _).alloc (by simp) _
  have H0 := Lib.hid (And.intro hb0 (And.intro hx1 (And.intro hy0 (And.intro hs0 hl0))))
  clear hb0 hx0 hy0 hx1 hs0 hl0
  go_enter Try.func19, Try.ntmps19
  go_wp2
  go_loopw [6] (fun i wr => ∃ (k : Nat) (F : Nat → Int), i = .int .i64 k ∧ k ≤ 8 ∧ (∀ j, j < k → F j = rowF x j - rowF y j) ∧ ArrI wr 25 (w.heap.size + 1 + 1 + 1) F ∧ Below (w.heap.size + 1 + 1 + 1) (b0.alloc (.cells (Array.replicate 8 (.int .i64 0)) 26)) wr) (fun i _ => 8 - (intOf i).toNat)
  case atStart =>
    obtain ⟨hb0, hx0, hy0, hs0, hl0⟩ := H0.out
    refine ⟨0, fun _ => 0, rfl, by omega, fun j hj => by omega, ?_, ?_⟩
    · have h := arrI_start (b0.alloc (.cells (Array.replicate 8 (.int .i64 0)) 26)) 25
      rw [World.size_alloc, hs0] at h
      rw [hb0] at h
      exact h
    · rw [hb0]
      exact (Below.refl _ _).alloc (by simp) _
  case round =>
    obtain ⟨k, F, rfl, hk8, hfig, hF, hbel⟩ := hrel
    obtain ⟨wo, hwo⟩ : ∃ wo, wo = wr := ⟨_, rfl⟩
    subst hwo
    have HF := Lib.hid hF
    have HBel := Lib.hid hbel
    obtain ⟨hb0, hx0, hy0, hs0, hl0⟩ := H0.out
    have bb : Below b0.heap.size b0 (b0.alloc (.cells (Array.replicate 8 (.int .i64 0)) 26)) := (Below.refl _ _).alloc (Nat.le_refl _) _
    have hx1 := (ArrI.keep hx0 bb (by omega)).keep hbel (by omega)
    have hy1 := (ArrI.keep hy0 bb (by omega)).keep hbel (by omega)
    by_cases hk : k < 8
    · obtain ⟨p, hp⟩ : ∃ p, p = rowF x k := ⟨_, rfl⟩
      obtain ⟨q, hq⟩ : ∃ q, q = rowF y k := ⟨_, rfl⟩
      have hca : wo.cell? ⟨w.heap.size, k, none⟩ = some (.int .i64 p) := by rw [hp]; exact World.rowIs.cell hx1 (by omega)
      have hcb : wo.cell? ⟨w.heap.size + 1, k, none⟩ = some (.int .i64 q) := by rw [hq]; exact World.rowIs.cell hy1 (by omega)
      have pb : 0 ≤ p ∧ p < 65536 := by rw [hp]; exact rowF_bd _ _
      have qb : 0 ≤ q ∧ q < 65536 := by rw [hq]; exact rowF_bd _ _
      have hR : Hid (∀ j, j < k + 1 → updI F k (p - q) j = rowF x j - rowF y j) := Lib.hid fun j hj => by
        by_cases e : j = k
        · subst e; rw [upd_at, hp, hq]
        · rw [upd_off _ _ _ _ e]; exact hfig j (by omega)
      have hc1 : wo.cell? ⟨w.heap.size + 1 + 1 + 1, k, none⟩ = some (.int .i64 (F k)) := World.rowIs.cell hF (by omega)
      have hz1 : wo.frozen? ⟨w.heap.size + 1 + 1 + 1, k, none⟩ = false := World.rowIs.frozen hF _
      have hkI : (k : Int) < 8 := by omega
      have wq : IntKind.i64.wrap (p - q) = p - q := IntWalk.i64_in _ (by omega)
      clear hfig hF hbel hp hq hx1 hy1 bb hb0 hx0 hy0 hs0 hl0
      go_wp2
      go_region
      all_goals go_wp2
      all_goals go_roundw
      case rel => exact ⟨k + 1, updI F k (p - q), by go_num, by omega, hR.out, by first | exact World.rowIs.drew (ArrI.set HF.out k (p - q) _ rfl) | exact ArrI.set HF.out k (p - q) _ rfl, by first | exact (HBel.out.setCell (by simp) _).drew | exact HBel.out.setCell (by simp) _⟩
      case measure => simp [intOf]; omega
    · have hk4 : k = 8 := by omega
      subst hk4
      have hl1 := hl0.trans ((bb.mono (show w.heap.size ≤ b0.heap.size by omega)).trans (hbel.mono (by omega)))
      have HL1 := Lib.hid hl1
      obtain ⟨c0, c1, c2, c3, c4, c5, c6, c7⟩ := hF.cells hfig
      have hR0 := arrI_start b0 26
      rw [hs0] at hR0
      have hR : ArrI wo 26 (w.heap.size + 1 + 1) (fun _ => 0) := hR0.keep hbel (by omega)
      have hlt := World.rowIs.lt hF
      have HR := Lib.hid hR
      clear hfig hF hR hbel hb0 hx0 hy0 hs0 hl0 hR0 hx1 hy1 bb hl1
      go_wp2_with (go_at_call 64; (with_reducible refine (KC.out _).mono ?_); rintro e w3 ⟨rfl, l3⟩; have L3 := Lib.hid l3; have HR3 := Lib.hid (ArrI.keep HR.out l3 (by omega)); obtain ⟨r0, r1, r2, r3, r4, r5, r6, r7⟩ := HR3.out.cells (G := fun _ => 0) (fun _ _ => rfl); obtain ⟨z0, z1, z2, z3, z4, z5, z6, z7⟩ := HR3.out.free; clear l3)
      go_wp2
      have hE := HR3.out.eight (rowF (x - y))
      have lE := below_eight (HL1.out.trans (L3.out.mono HL1.out.size)) (show w.heap.size ≤ w.heap.size + 1 + 1 by omega) (rowF (x - y))
      generalize ((((((((w3.setCell ⟨w.heap.size + 1 + 1, 0, none⟩ (.int .i64 (rowF (x - y) 0))).setCell ⟨w.heap.size + 1 + 1, 1, none⟩ (.int .i64 (rowF (x - y) 1))).setCell ⟨w.heap.size + 1 + 1, 2, none⟩ (.int .i64 (rowF (x - y) 2))).setCell ⟨w.heap.size + 1 + 1, 3, none⟩ (.int .i64 (rowF (x - y) 3))).setCell ⟨w.heap.size + 1 + 1, 4, none⟩ (.int .i64 (rowF (x - y) 4))).setCell ⟨w.heap.size + 1 + 1, 5, none⟩ (.int .i64 (rowF (x - y) 5))).setCell ⟨w.heap.size + 1 + 1, 6, none⟩ (.int .i64 (rowF (x - y) 6))).setCell ⟨w.heap.size + 1 + 1, 7, none⟩ (.int .i64 (rowF (x - y) 7))) = W at hE lE ⊢
      obtain ⟨u0, u1, u2, u3, u4, u5, u6, u7⟩ := hE.cells (G := rowF (x - y)) fun _ _ => rfl
      exact bodyPost_ret (v := rowV (x - y)) (by simp [results, Try.results19, go_sem, rowV, u0, u1, u2, u3, u4, u5, u6, u7]) rfl ⟨rfl, lE⟩
end Go.Proofs.Ytdpgoddhchoefaa
