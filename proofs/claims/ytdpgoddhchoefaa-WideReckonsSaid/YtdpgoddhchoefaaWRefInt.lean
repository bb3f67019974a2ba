/- The document's Int and carry: the walks. -/
import Derived.Test.YtdpgoddhchoefaaWRefOf
namespace Go.Proofs.Ytdpgoddhchoefaa
open Go.RowKit
set_option linter.unusedVariables false

/-- One figure off a number, as the document does it. -/
theorem one_off (n : Int) (hn : In64 n) : ∃ d0 d E n', n.tmod 65536 = d0 ∧ (-65536 < d0 ∧ d0 < 65536) ∧ (d0 < 0 → d0 + 65536 = d) ∧ (¬ d0 < 0 → d0 = d) ∧ d = n % 65536 ∧ (0 ≤ d ∧ d < 65536) ∧ wrap64 (n - d) = E ∧ E.tdiv 65536 = n' ∧ n' = n / 65536 ∧ wrap64 n' = n' := by
  unfold In64 at hn
  obtain ⟨t1, t2⟩ := tmod_fix n
  have h1 := Int.tmod_lt_of_pos n (show (0 : Int) < 65536 by omega)
  have h2 := Int.lt_tmod_of_pos n (show (0 : Int) < 65536 by omega)
  exact ⟨_, _, n - n % 65536, _, rfl, ⟨by omega, h1⟩, t2, t1, rfl, by omega, by rw [wrap64_eq]; omega, tdiv_fix n, rfl, by rw [wrap64_eq]; omega⟩
set_option maxRecDepth 100000 in
set_option maxHeartbeats 4000000 in
theorem refInt_any (x : Int) (hx : In64 x) (w : World) : Calls Try.prog 28 #[.int .i64 x] w fun e w' => e = .returned (rowV x) ∧ Below w.heap.size w w' := by
  have HX := Lib.hid hx
  obtain ⟨n0, hn0⟩ : ∃ n0, n0 = x := ⟨_, rfl⟩
  rw [show (#[Value.int .i64 x] : Array Value) = #[.int .i64 n0] by rw [hn0]]
  have HN0 := Lib.hid hn0
  clear hx hn0
  go_enter Try.func28, Try.ntmps28
  go_wp2
  go_loopw [4, 0, 5] (fun i nv d wr => ∃ (k : Nat) (n : Int) (F : Nat → Int), i = .int .i64 k ∧ k ≤ 8 ∧ nv = .int .i64 n ∧ n = x / 65536 ^ k ∧ (∀ j, j < k → F j = rowF x j) ∧ ArrI wr 26 (w.heap.size + 1) F ∧ Below (w.heap.size + 1) (w.alloc (.cells (Array.replicate 8 (.int .i64 0)) 26)) wr) (fun i _ _ _ => 8 - (intOf i).toNat)
  case atStart =>
    refine ⟨0, n0, fun _ => 0, rfl, by omega, rfl, by rw [HN0.out, Int.pow_zero, Int.ediv_one], fun j hj => by omega, ?_, ?_⟩
    · have h := arrI_start (w.alloc (.cells (Array.replicate 8 (.int .i64 0)) 26)) 26
      rw [World.size_alloc] at h
      exact h
    · exact (Below.refl _ _).alloc (by simp) _
  case round =>
    obtain ⟨k, n, F, rfl, hk8, rfl, hn, hfig, hF, hbel⟩ := hrel
    obtain ⟨wo, hwo⟩ : ∃ wo, wo = wr := ⟨_, rfl⟩
    subst hwo
    have HF := Lib.hid hF
    have HBel := Lib.hid hbel
    by_cases hk : k < 8
    · have nb : In64 n := by
        have h0 := HX.out
        unfold In64 at *
        rw [hn]
        rcases k with _ | _ | _ | _ | _ | _ | _ | _ | k <;> first | omega | (simp only [Nat.reduceAdd, Int.reducePow, Int.pow_zero, Int.ediv_one]; omega)
      obtain ⟨d0, d, E, n', q3, d0b, t2, t1, hd, db, wE, t3, hn', w5⟩ := one_off n nb
      have hdr : d = rowF x k := by unfold rowF; rw [hd, hn]
      have hN : Hid (n' = x / 65536 ^ (k + 1)) := Lib.hid (by rw [hn', hn, div_next])
      have hR : Hid (∀ j, j < k + 1 → updI F k d j = rowF x j) := Lib.hid fun j hj => by
        by_cases e : j = k
        · subst e; rw [upd_at, hdr]
        · rw [upd_off _ _ _ _ e]; exact hfig j (by omega)
      have W5 := Lib.hid w5
      have hc1 : wo.cell? ⟨w.heap.size + 1, k, none⟩ = some (.int .i64 (F k)) := World.rowIs.cell hF (by omega)
      have hz1 : wo.frozen? ⟨w.heap.size + 1, k, none⟩ = false := World.rowIs.frozen hF _
      have hkI : (k : Int) < 8 := by omega
      clear hdr hd hn' hn hfig hF hbel nb w5
      by_cases hneg : d0 < 0
      · have t4 := t2 hneg
        clear t1 t2
        go_wp2
        go_roundw
        case rel => exact ⟨k + 1, n', updI F k d, by go_num, by omega, int_eq' W5.out, hN.out, hR.out, ArrI.set HF.out k d _ rfl, HBel.out.setCell (by simp) _⟩
        case measure => simp [intOf]; omega
      · have t4 := t1 hneg
        clear t1 t2
        go_wp2
        go_roundw
        case rel => exact ⟨k + 1, n', updI F k d, by go_num, by omega, int_eq' W5.out, hN.out, hR.out, ArrI.set HF.out k d _ rfl, HBel.out.setCell (by simp) _⟩
        case measure => simp [intOf]; omega
    · have hk4 : k = 8 := by omega
      subst hk4
      obtain ⟨c0, c1, c2, c3, c4, c5, c6, c7⟩ := hF.cells hfig
      have hR : ArrI wo 26 w.heap.size (fun _ => 0) := (arrI_start w 26).keep hbel (by simp)
      obtain ⟨r0, r1, r2, r3, r4, r5, r6, r7⟩ := hR.cells (G := fun _ => 0) fun _ _ => rfl
      obtain ⟨z0, z1, z2, z3, z4, z5, z6, z7⟩ := hR.free
      have hE := hR.eight (rowF x)
      have lE := below_eight (((Below.refl _ _).alloc (Nat.le_refl _) _).trans (hbel.mono (by omega))) (Nat.le_refl w.heap.size) (rowF x)
      have HE := Lib.hid (And.intro hE lE)
      clear hfig hF hR hn hbel hE lE
      go_wp2
      have hE := HE.out
      clear HE
      generalize ((((((((wo.setCell ⟨w.heap.size, 0, none⟩ (.int .i64 (rowF x 0))).setCell ⟨w.heap.size, 1, none⟩ (.int .i64 (rowF x 1))).setCell ⟨w.heap.size, 2, none⟩ (.int .i64 (rowF x 2))).setCell ⟨w.heap.size, 3, none⟩ (.int .i64 (rowF x 3))).setCell ⟨w.heap.size, 4, none⟩ (.int .i64 (rowF x 4))).setCell ⟨w.heap.size, 5, none⟩ (.int .i64 (rowF x 5))).setCell ⟨w.heap.size, 6, none⟩ (.int .i64 (rowF x 6))).setCell ⟨w.heap.size, 7, none⟩ (.int .i64 (rowF x 7))) = W at hE ⊢
      obtain ⟨hE, lE⟩ := hE
      obtain ⟨u0, u1, u2, u3, u4, u5, u6, u7⟩ := hE.cells (G := rowF x) fun _ _ => rfl
      exact bodyPost_ret (v := rowV x) (by simp [results, Try.results28, go_sem, rowV, u0, u1, u2, u3, u4, u5, u6, u7]) rfl ⟨rfl, lE⟩
theorem arrI_box (w : World) (T : Nat) (L : Nat → Int) : ArrI (w.alloc (.cells #[.int .i64 (L 0), .int .i64 (L 1), .int .i64 (L 2), .int .i64 (L 3), .int .i64 (L 4), .int .i64 (L 5), .int .i64 (L 6), .int .i64 (L 7)] T)) T w.heap.size L := by
  have h := World.rowIs_alloc w #[.int .i64 (L 0), .int .i64 (L 1), .int .i64 (L 2), .int .i64 (L 3), .int .i64 (L 4), .int .i64 (L 5), .int .i64 (L 6), .int .i64 (L 7)] T (fun i => .int .i64 (L i)) (fun i hi => by
    have hi : i < 8 := hi
    rcases i with _ | _ | _ | _ | _ | _ | _ | _ | i <;> first | rfl | omega)
  exact h
set_option maxRecDepth 100000 in
set_option maxHeartbeats 4000000 in
theorem carry_any (L : Nat → Int) (hL : ∀ i, i < 8 → -17592186044416 ≤ L i ∧ L i ≤ 17592186044416) (w : World) : Calls Try.prog 64 #[.agg #[.int .i64 (L 0), .int .i64 (L 1), .int .i64 (L 2), .int .i64 (L 3), .int .i64 (L 4), .int .i64 (L 5), .int .i64 (L 6), .int .i64 (L 7)]] w fun e w' => e = .returned (rowV (sumR L 8)) ∧ Below w.heap.size w w' := by
  have HL := Lib.hid hL
  obtain ⟨b0, hb0⟩ : ∃ b0, b0 = (w.alloc (.cells #[.int .i64 (L 0), .int .i64 (L 1), .int .i64 (L 2), .int .i64 (L 3), .int .i64 (L 4), .int .i64 (L 5), .int .i64 (L 6), .int .i64 (L 7)] 25)) := ⟨_, rfl⟩
  have hA0 := arrI_box w 25 L
  have hs0 : b0.heap.size = w.heap.size + 1 := by rw [hb0]; simp
  have hl0 : Below w.heap.size w b0 := by rw [hb0]; exact (Below.refl _ _).alloc (Nat.le_refl _) _
  rw [← hb0] at hA0
  have H0 := Lib.hid (And.intro hb0 (And.intro hA0 (And.intro hs0 hl0)))
  clear hL hb0 hA0 hs0 hl0
  go_enter Try.func64, Try.ntmps64
  go_wp2
  go_loopw [5, 4, 6, 7] (fun i ov n d wr => ∃ (k : Nat) (o : Int) (F : Nat → Int), i = .int .i64 k ∧ k ≤ 8 ∧ ov = .int .i64 o ∧ o = sumR L k / 65536 ^ k ∧ (-17592186044416 ≤ o ∧ o ≤ 17592186044416) ∧ (∀ j, j < k → F j = rowF (sumR L 8) j) ∧ ArrI wr 26 (w.heap.size + 2) F ∧ Below (w.heap.size + 2) (b0.alloc (.cells (Array.replicate 8 (.int .i64 0)) 26)) wr) (fun i _ _ _ _ => 8 - (intOf i).toNat)
  case atStart =>
    obtain ⟨hb0, hA0, hs0, hl0⟩ := H0.out
    refine ⟨0, 0, fun _ => 0, rfl, by omega, rfl, rfl, by omega, fun j hj => by omega, ?_, ?_⟩
    · have h := arrI_start (b0.alloc (.cells (Array.replicate 8 (.int .i64 0)) 26)) 26
      rw [World.size_alloc, hs0] at h
      rw [hb0] at h
      exact h
    · rw [hb0]
      exact (Below.refl _ _).alloc (by simp) _
  case round =>
    obtain ⟨k, o, F, rfl, hk8, rfl, ho, ob, hfig, hF, hbel⟩ := hrel
    obtain ⟨wo, hwo⟩ : ∃ wo, wo = wr := ⟨_, rfl⟩
    subst hwo
    have HF := Lib.hid hF
    have HBel := Lib.hid hbel
    obtain ⟨hb0, hA0, hs0, hl0⟩ := H0.out
    have hA1 : ArrI wo 25 w.heap.size L := (ArrI.keep hA0 ((Below.refl _ _).alloc (Nat.le_refl _) _) (by omega)).keep hbel (by omega)
    by_cases hk : k < 8
    · have lb := HL.out k hk
      obtain ⟨n, hn⟩ : ∃ n, n = L k + o := ⟨_, rfl⟩
      have nb : In64 n := by unfold In64; omega
      obtain ⟨d0, d, E, n', q3, d0b, t2, t1, hd, db, wE, t3, hn', w5⟩ := one_off n nb
      have hdr : d = rowF (sumR L 8) k := by rw [sum_fig L k 8 hk, hd, hn, ho]
      have hN : Hid (n' = sumR L (k + 1) / 65536 ^ (k + 1)) := Lib.hid (by rw [hn', hn, ho, sum_next])
      have hB : Hid (-17592186044416 ≤ n' ∧ n' ≤ 17592186044416) := Lib.hid (by omega)
      have hR : Hid (∀ j, j < k + 1 → updI F k d j = rowF (sumR L 8) j) := Lib.hid fun j hj => by
        by_cases e : j = k
        · subst e; rw [upd_at, hdr]
        · rw [upd_off _ _ _ _ e]; exact hfig j (by omega)
      have W5 := Lib.hid w5
      have W6 : Hid ((n - d).tdiv 65536 = n') := Lib.hid (by rw [hd, hn']; exact tdiv_fix n)
      have hc0 : wo.cell? ⟨w.heap.size, k, none⟩ = some (.int .i64 (L k)) := World.rowIs.cell hA1 (by omega)
      have hc1 : wo.cell? ⟨w.heap.size + 2, k, none⟩ = some (.int .i64 (F k)) := World.rowIs.cell hF (by omega)
      have hz1 : wo.frozen? ⟨w.heap.size + 2, k, none⟩ = false := World.rowIs.frozen hF _
      have hkI : (k : Int) < 8 := by omega
      have q4 : L k + o = n := hn.symm
      clear hdr hd hn' hn hfig hF hbel nb w5 ho hA1 hb0 hA0 hs0 hl0
      by_cases hneg : d0 < 0
      · have t4 := t2 hneg
        clear t1 t2
        go_wp2
        go_roundw
        case rel => exact ⟨k + 1, n', updI F k d, by go_num, by omega, by first | rfl | exact int_eq' W5.out | exact int_eq' W6.out, hN.out, hB.out, hR.out, ArrI.set HF.out k d _ rfl, HBel.out.setCell (by simp) _⟩
        case measure => simp [intOf]; omega
      · have t4 := t1 hneg
        clear t1 t2
        go_wp2
        go_roundw
        case rel => exact ⟨k + 1, n', updI F k d, by go_num, by omega, by first | rfl | exact int_eq' W5.out | exact int_eq' W6.out, hN.out, hB.out, hR.out, ArrI.set HF.out k d _ rfl, HBel.out.setCell (by simp) _⟩
        case measure => simp [intOf]; omega
    · have hk4 : k = 8 := by omega
      subst hk4
      obtain ⟨c0, c1, c2, c3, c4, c5, c6, c7⟩ := hF.cells hfig
      have hR0 := arrI_start b0 26
      rw [hs0] at hR0
      have hR : ArrI wo 26 (w.heap.size + 1) (fun _ => 0) := hR0.keep hbel (by omega)
      obtain ⟨r0, r1, r2, r3, r4, r5, r6, r7⟩ := hR.cells (G := fun _ => 0) fun _ _ => rfl
      obtain ⟨z0, z1, z2, z3, z4, z5, z6, z7⟩ := hR.free
      have hE := hR.eight (rowF (sumR L 8))
      have lE := below_eight (hl0.trans ((((Below.refl b0.heap.size b0).alloc (Nat.le_refl _) _).mono (by omega)).trans (hbel.mono (by omega)))) (show w.heap.size ≤ w.heap.size + 1 by omega) (rowF (sumR L 8))
      have HE := Lib.hid (And.intro hE lE)
      clear hfig hF hR hbel hE lE ho hA1 hb0 hA0 hs0 hl0 hR0
      go_wp2
      have hE := HE.out
      clear HE
      generalize ((((((((wo.setCell ⟨w.heap.size + 1, 0, none⟩ (.int .i64 (rowF (sumR L 8) 0))).setCell ⟨w.heap.size + 1, 1, none⟩ (.int .i64 (rowF (sumR L 8) 1))).setCell ⟨w.heap.size + 1, 2, none⟩ (.int .i64 (rowF (sumR L 8) 2))).setCell ⟨w.heap.size + 1, 3, none⟩ (.int .i64 (rowF (sumR L 8) 3))).setCell ⟨w.heap.size + 1, 4, none⟩ (.int .i64 (rowF (sumR L 8) 4))).setCell ⟨w.heap.size + 1, 5, none⟩ (.int .i64 (rowF (sumR L 8) 5))).setCell ⟨w.heap.size + 1, 6, none⟩ (.int .i64 (rowF (sumR L 8) 6))).setCell ⟨w.heap.size + 1, 7, none⟩ (.int .i64 (rowF (sumR L 8) 7))) = W at hE ⊢
      obtain ⟨hE, lE⟩ := hE
      obtain ⟨u0, u1, u2, u3, u4, u5, u6, u7⟩ := hE.cells (G := rowF (sumR L 8)) fun _ _ => rfl
      exact bodyPost_ret (v := rowV (sumR L 8)) (by simp [results, Try.results64, go_sem, rowV, u0, u1, u2, u3, u4, u5, u6, u7]) rfl ⟨rfl, lE⟩
end Go.Proofs.Ytdpgoddhchoefaa
