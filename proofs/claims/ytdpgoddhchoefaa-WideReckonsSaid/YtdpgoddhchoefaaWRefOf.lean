/- The document's Of and Int: the walks. -/
import Derived.Test.YtdpgoddhchoefaaWRow
namespace Go.Proofs.Ytdpgoddhchoefaa
open Go.RowKit
set_option linter.unusedVariables false

def OfRel (x : Int) (F : Nat → Int) (k : Nat) : Prop := (∀ j, j < k → F j = rowF x j ∧ F (4 + j) = rowF x (4 + j)) ∧ k ≤ 4
theorem OfRel.next {x : Int} {F : Nat → Int} {k : Nat} (h : OfRel x F k) (hk : k < 4) : OfRel x (updI (updI F k (rowF x k)) (4 + k) (rowF x (4 + k))) (k + 1) := by
  refine ⟨fun j hj => ?_, by omega⟩
  by_cases e : j = k
  · subst e
    refine ⟨?_, upd_at _ _ _⟩
    rw [upd_off _ _ _ _ (by omega), upd_at]
  · have := h.1 j (by omega)
    refine ⟨?_, ?_⟩
    · rw [upd_off _ _ _ _ (by omega), upd_off _ _ _ _ e]; exact this.1
    · rw [upd_off _ _ _ _ (by omega), upd_off _ _ _ _ (by omega)]; exact this.2
theorem OfRel.all {x : Int} {F : Nat → Int} (h : OfRel x F 4) : ∀ i, i < 8 → F i = rowF x i := by
  intro i hi
  by_cases h4 : i < 4
  · exact (h.1 i h4).1
  · have := (h.1 (i - 4) (by omega)).2
    rwa [show 4 + (i - 4) = i by omega] at this
set_option maxRecDepth 100000 in
set_option maxHeartbeats 4000000 in
theorem refOf_any (x : Int) (w : World) : Calls Try.prog 62 #[.int .i64 (hiW x), .int .u64 (loW x)] w fun e w' => e = .returned (rowV x) ∧ Below w.heap.size w w' := by
  have hb := hiW_bd x
  have lb := loW_bd x
  obtain ⟨H0, hH⟩ : ∃ H0, H0 = hiW x := ⟨_, rfl⟩
  obtain ⟨L0, hL⟩ : ∃ L0, L0 = loW x := ⟨_, rfl⟩
  rw [← hH, ← hL]
  have HB := Lib.hid (And.intro (And.intro hH hb) (And.intro hL lb))
  clear hH hL hb lb
  go_enter Try.func62, Try.ntmps62
  go_wp2
  go_loopw [6, 0, 1, 7] (fun i hi lo d wr => ∃ (k : Nat) (h l : Int) (F : Nat → Int), i = .int .i64 k ∧ hi = .int .i64 h ∧ lo = .int .u64 l ∧ h = H0 / 65536 ^ k ∧ l = L0 / 65536 ^ k ∧ OfRel x F k ∧ ArrI wr 26 (w.heap.size + 1) F ∧ Below (w.heap.size + 1) (w.alloc (.cells (Array.replicate 8 (.int .i64 0)) 26)) wr) (fun i _ _ _ _ => 4 - (intOf i).toNat)
  case atStart =>
    refine ⟨0, H0, L0, fun _ => 0, rfl, rfl, rfl, by rw [Int.pow_zero, Int.ediv_one], by rw [Int.pow_zero, Int.ediv_one], ⟨fun j hj => by omega, by omega⟩, ?_, ?_⟩
    · have h := arrI_start (w.alloc (.cells (Array.replicate 8 (.int .i64 0)) 26)) 26
      rw [World.size_alloc] at h
      exact h
    · exact (Below.refl _ _).alloc (by simp) _
  case round =>
    obtain ⟨k, h, l, F, rfl, rfl, rfl, hh, hl, hrel, hF, hbel⟩ := hrel
    obtain ⟨wo, hwo⟩ : ∃ wo, wo = wr := ⟨_, rfl⟩
    subst hwo
    have HF := Lib.hid hF
    have HBel := Lib.hid hbel
    by_cases hk : k < 4
    · obtain ⟨⟨e1, b1⟩, e2, b2⟩ := HB.out
      have fl := low_fig x k hk
      have fh := high_fig x k hk
      rw [← e2, ← hl] at fl
      rw [← e1, ← hh] at fh
      have nl : l / 65536 = L0 / 65536 ^ (k + 1) := by rw [div_next, ← hl]
      have nh : h / 65536 = H0 / 65536 ^ (k + 1) := by rw [div_next, ← hh]
      have l0 : 0 ≤ l := by rw [hl]; exact Int.ediv_nonneg (by omega) (Int.le_of_lt (pow_pos' k))
      have l1 : l < 18446744073709551616 := by
        have : L0 / 65536 ^ k ≤ L0 := Int.ediv_le_self _ (by omega)
        omega
      have h0 : -9223372036854775808 ≤ h ∧ h ≤ 9223372036854775807 := by
        rw [hh]
        rcases k with _ | _ | _ | _ | k <;> first | omega | (simp only [Nat.reduceAdd, Int.reducePow, Int.pow_zero, Int.ediv_one]; omega)
      obtain ⟨t1, t2⟩ := tmod_fix h
      have t3 := tdiv_fix h
      obtain ⟨d0, hd0⟩ : ∃ d0, d0 = h.tmod 65536 := ⟨_, rfl⟩
      have d0b : -65536 < d0 ∧ d0 < 65536 := by rw [hd0]; have := Int.tmod_lt_of_pos h (show (0 : Int) < 65536 by omega); have := Int.lt_tmod_of_pos h (show (0 : Int) < 65536 by omega); omega
      obtain ⟨d, hd⟩ : ∃ d, d = rowF x (4 + k) := ⟨_, rfl⟩
      obtain ⟨f, hf⟩ : ∃ f, f = rowF x k := ⟨_, rfl⟩
      have db : 0 ≤ d ∧ d < 65536 := by rw [hd]; exact rowF_bd _ _
      have fb : 0 ≤ f ∧ f < 65536 := by rw [hf]; exact rowF_bd _ _
      rw [fh, ← hd] at t1 t2 t3
      rw [← hd0] at t1 t2
      rw [← hf] at fl
      obtain ⟨l', hl'⟩ : ∃ l', l' = l / 65536 := ⟨_, rfl⟩
      obtain ⟨h', hh'⟩ : ∃ h', h' = h / 65536 := ⟨_, rfl⟩
      obtain ⟨E, hE⟩ : ∃ E, E = h - d := ⟨_, rfl⟩
      have wE : wrap64 (h - d) = E := by rw [hE, wrap64_eq]; rw [← hd] at fh; omega
      have wE2 : IntKind.i64.wrap (h - d) = E := by rw [hE, wrap_i64']; rw [← hd] at fh; omega
      rw [← hE, ← hh'] at t3
      have w1 : IntKind.u64.wrap (l.tmod 65536) = f := by rw [Int.tmod_eq_emod_of_nonneg l0, fl, IntKind.wrap_u64]; omega
      have w2 : IntKind.u64.wrap (l.tdiv 65536) = l' := by rw [Int.tdiv_eq_ediv_of_nonneg l0, ← hl', IntKind.wrap_u64]; omega
      have w3 : IntKind.i64.wrap (h.tmod 65536) = d0 := by rw [← hd0, wrap_i64']; omega
      have w4 : IntKind.i64.wrap (E.tdiv 65536) = h' := by rw [t3, wrap_i64']; omega
      have hN := Lib.hid (And.intro (nl ▸ hl' : l' = L0 / 65536 ^ (k + 1)) (nh ▸ hh' : h' = H0 / 65536 ^ (k + 1)))
      have hR := Lib.hid (hrel.next hk)
      rw [← hd, ← hf] at hR
      have q2 : l / 65536 = l' := hl'.symm
      have q3 : h.tmod 65536 = d0 := hd0.symm
      have W5 : Hid (wrap64 h' = h') := Lib.hid (by rw [wrap64_eq]; omega)
      have hcf := hF.cells (G := F) fun _ _ => rfl
      have hc1 : wo.cell? ⟨w.heap.size + 1, k, none⟩ = some (.int .i64 (F k)) := World.rowIs.cell hF (by omega)
      have hz1 : wo.frozen? ⟨w.heap.size + 1, k, none⟩ = false := World.rowIs.frozen hF _
      have hc2 : wo.cell? ⟨w.heap.size + 1, 4 + k, none⟩ = some (.int .i64 (F (4 + k))) := World.rowIs.cell hF (by omega)
      have hz2 : wo.frozen? ⟨w.heap.size + 1, 4 + k, none⟩ = false := World.rowIs.frozen hF _
      have hkI : (k : Int) < 4 := by omega
      have x1 : ((4 : Int) + k).toNat = 4 + k := by omega
      have x2 : (4 : Int) + k < 8 := by omega
      clear hcf hd0 fh nl nh hd hf hl' hh' hE hrel hF hbel hh hl e1 e2 b1 b2 l1 h0
      by_cases hneg : d0 < 0
      · have t4 := t2 hneg
        clear t1 t2
        go_wp2
        go_roundw
        case rel => exact ⟨k + 1, h', l', updI (updI F k f) (4 + k) d, by go_num, int_eq' W5.out, rfl, hN.out.2, hN.out.1, hR.out, (ArrI.set HF.out k f _ rfl).set (4 + k) d _ rfl, (HBel.out.setCell (by simp) _).setCell (by simp) _⟩
        case measure => simp [intOf]; omega
      · have t4 := t1 hneg
        clear t1 t2
        go_wp2
        go_roundw
        case rel => exact ⟨k + 1, h', l', updI (updI F k f) (4 + k) d, by go_num, int_eq' W5.out, rfl, hN.out.2, hN.out.1, hR.out, (ArrI.set HF.out k f _ rfl).set (4 + k) d _ rfl, (HBel.out.setCell (by simp) _).setCell (by simp) _⟩
        case measure => simp [intOf]; omega
    · have hk4 : k = 4 := by have := hrel.2; omega
      subst hk4
      have hA := hrel.all
      obtain ⟨c0, c1, c2, c3, c4, c5, c6, c7⟩ := hF.cells hA
      have hR : ArrI wo 26 w.heap.size (fun _ => 0) := (arrI_start w 26).keep hbel (by simp)
      obtain ⟨r0, r1, r2, r3, r4, r5, r6, r7⟩ := hR.cells (G := fun _ => 0) fun _ _ => rfl
      obtain ⟨z0, z1, z2, z3, z4, z5, z6, z7⟩ := hR.free
      have hE := hR.eight (rowF x)
      have lE := below_eight (((Below.refl _ _).alloc (Nat.le_refl _) _).trans (hbel.mono (by omega))) (Nat.le_refl w.heap.size) (rowF x)
      have HE := Lib.hid (And.intro hE lE)
      clear hrel hA hF hR hh hl hbel hE lE
      go_wp2
      have hE := HE.out
      clear HE
      generalize ((((((((wo.setCell ⟨w.heap.size, 0, none⟩ (.int .i64 (rowF x 0))).setCell ⟨w.heap.size, 1, none⟩ (.int .i64 (rowF x 1))).setCell ⟨w.heap.size, 2, none⟩ (.int .i64 (rowF x 2))).setCell ⟨w.heap.size, 3, none⟩ (.int .i64 (rowF x 3))).setCell ⟨w.heap.size, 4, none⟩ (.int .i64 (rowF x 4))).setCell ⟨w.heap.size, 5, none⟩ (.int .i64 (rowF x 5))).setCell ⟨w.heap.size, 6, none⟩ (.int .i64 (rowF x 6))).setCell ⟨w.heap.size, 7, none⟩ (.int .i64 (rowF x 7))) = W at hE ⊢
      obtain ⟨hE, lE⟩ := hE
      obtain ⟨u0, u1, u2, u3, u4, u5, u6, u7⟩ := hE.cells (G := rowF x) fun _ _ => rfl
      exact bodyPost_ret (v := rowV x) (by simp [results, Try.results62, go_sem, rowV, u0, u1, u2, u3, u4, u5, u6, u7]) rfl ⟨rfl, lE⟩
end Go.Proofs.Ytdpgoddhchoefaa
