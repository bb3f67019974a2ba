/- stem's law: plain, awake. -/
import Derived.Test.YtoainljghfldlaaSStem2
namespace Go.Proofs.Ytoainljghfldlaa
open Go.RowKit
set_option linter.unusedVariables false
set_option linter.unusedSimpArgs false

open Go.Shelf
attribute [local go_sem] Oper.semAt_some
theorem letB_lo {b : UInt8} (h : (b.toNat : Int) < 97) : letB b = false := by unfold letB; rw [Bool.and_eq_false_iff]; exact .inl (decide_eq_false (by omega))
theorem letB_hi {b : UInt8} (h : (122 : Int) < (b.toNat : Int)) : letB b = false := by unfold letB; rw [Bool.and_eq_false_iff]; exact .inr (decide_eq_false (by omega))
theorem letB_in {b : UInt8} (h : letB b = true) : (97 : Int) ≤ (b.toNat : Int) ∧ (b.toNat : Int) ≤ 122 := by
  unfold letB at h
  simp only [Bool.and_eq_true, decide_eq_true_eq] at h
  omega
theorem letB_out {b : UInt8} (h : letB b = false) : (b.toNat : Int) < 97 ∨ ((97 : Int) ≤ (b.toNat : Int) ∧ (122 : Int) < (b.toNat : Int)) := by
  unfold letB at h
  simp only [Bool.and_eq_false_iff, decide_eq_false_iff_not] at h
  omega
set_option maxRecDepth 100000 in
set_option maxHeartbeats 8000000 in
theorem plain_any (t : List UInt8) (ht : t.length ≤ 1000000) (w : World) : Calls Try.prog 10 #[.string (mkB t)] w fun e w' => e = .returned (.bool (mayB t)) ∧ w' = w := by
  have hsz := mkB_size t
  have HX := Lib.hid (byte_at t)
  obtain ⟨bt, hbt⟩ : ∃ b, b = mkB t := ⟨_, rfl⟩
  have HX2 := Lib.hid (show ∀ i, i < t.length → ∀ h, (bt[i]'h) = t.getD i 0 by subst hbt; exact fun i hi h => HX.out i hi h)
  rw [← hbt] at hsz ⊢
  have hb : bt.size ≤ 1000000 := by omega
  have HSZ := Lib.hid hsz
  clear hbt hsz HX
  go_enter Try.func10, Try.ntmps10
  go_wp2
  go_loop [3] (fun i => ∃ k : Nat, k ≤ bt.size ∧ i = .int .i64 k ∧ (t.take k).all letB = true) (fun i => bt.size - (intOf i).toNat)
  case atStart => exact ⟨0, by omega, rfl, by simp⟩
  case round =>
    obtain ⟨k, hk, rfl, hal⟩ := hrel
    have HAL := Lib.hid hal
    clear hal
    by_cases hlt : k < bt.size
    · have hkt : k < t.length := by rw [← HSZ.out]; exact hlt
      have hAe := HX2.out k hkt
      cases hb : letB (t.getD k 0)
      · have HE := Lib.hid (may_no hkt hb)
        have ho := letB_out hb
        obtain ⟨x, hx⟩ : ∃ x, x = t.getD k 0 := ⟨_, rfl⟩
        rw [← hx] at hAe ho
        clear hx hb hkt
        rcases ho with i1 | ⟨i1, i2⟩
        · go_wp2
          go_ret
          exact ⟨by rw [HE.out]; rfl, rfl⟩
        · have i3 : ¬ (x.toNat : Int) < 97 := by omega
          go_wp2
          go_ret
          exact ⟨by rw [HE.out]; rfl, rfl⟩
      · have HA2 := Lib.hid (all_snoc hkt HAL.out hb)
        obtain ⟨i1, i2⟩ := letB_in hb
        obtain ⟨x, hx⟩ : ∃ x, x = t.getD k 0 := ⟨_, rfl⟩
        rw [← hx] at hAe i1 i2
        have i3 : ¬ (x.toNat : Int) < 97 := by omega
        have i4 : ¬ (122 : Int) < (x.toNat : Int) := by omega
        clear hx hb hkt
        go_wp2
        go_round
        case rel => exact ⟨k + 1, by omega, by go_num, HA2.out⟩
        case measure => simp [intOf]; omega
    · obtain rfl : k = bt.size := by omega
      have HE := Lib.hid (may_len (t := t) (by rw [← HSZ.out]; exact HAL.out))
      go_wp2
      go_ret
      exact ⟨ret_b (show decide ((3 : Int) ≤ (bt.size : Int)) = mayB t by rw [HE.out, ← HSZ.out]; exact decide_eq_decide.2 (by omega)), rfl⟩
def exW : List (List UInt8) := [[99, 97, 114, 101, 115, 115, 101, 115], [112, 111, 110, 105, 101, 115], [104, 111, 112, 112, 105, 110, 103], [102, 105, 108, 105, 110, 103], [114, 101, 108, 97, 116, 105, 111, 110, 97, 108], [103, 101, 110, 101, 114, 97, 108, 105, 122, 97, 116, 105, 111, 110, 115], [104, 97, 112, 112, 121]]
def exS : List (List UInt8) := [[99, 97, 114, 101, 115, 115], [112, 111, 110, 105], [104, 111, 112], [102, 105, 108, 101], [114, 101, 108, 97, 116], [103, 101, 110, 101, 114], [104, 97, 112, 112, 105]]
theorem ex_all {k : Nat} (hk : k < 7) : ∃ x, exW[k]? = some x ∧ exS[k]? = some (stemL x) ∧ x.length ≤ 100 := by
  rcases (show k = 0 ∨ k = 1 ∨ k = 2 ∨ k = 3 ∨ k = 4 ∨ k = 5 ∨ k = 6 by omega) with rfl | rfl | rfl | rfl | rfl | rfl | rfl
  · exact ⟨_, rfl, by rw [ex_1]; rfl, by decide⟩
  · exact ⟨_, rfl, by rw [ex_2]; rfl, by decide⟩
  · exact ⟨_, rfl, by rw [ex_3]; rfl, by decide⟩
  · exact ⟨_, rfl, by rw [ex_4]; rfl, by decide⟩
  · exact ⟨_, rfl, by rw [ex_5]; rfl, by decide⟩
  · exact ⟨_, rfl, by rw [ex_6]; rfl, by decide⟩
  · exact ⟨_, rfl, by rw [ex_7]; rfl, by decide⟩
theorem rdS_made (W : World) (es : List (List UInt8)) (T : TypeId) (c : Array Value) (hc : c = (es.map fun x => Value.string (mkB x)).toArray) : RdS (W.alloc (.cells c T)) W.heap.size es := fun i x hi => by
  rw [World.cell?, World.alloc_heap_new, hc]
  simp [hi]
set_option maxRecDepth 100000 in
set_option maxHeartbeats 8000000 in
theorem awake_any (w : World) : Calls Try.prog 7 #[] w fun e w' => e = .returned (.bool true) ∧ Below w.heap.size w w' := by
  have KM1 := Lib.hid (show ∀ W, Calls Try.prog 6 #[.string ⟨#[116, 114, 111, 117, 98, 108, 101]⟩] W fun e w' => e = .returned (.int .i64 1) ∧ Below W.heap.size W w' from fun W => by
    have := measure_any [116, 114, 111, 117, 98, 108, 101] (by decide) W
    rw [ex_8] at this
    exact this)
  have KM2 := Lib.hid (show ∀ W, Calls Try.prog 6 #[.string ⟨#[111, 97, 116, 101, 110]⟩] W fun e w' => e = .returned (.int .i64 2) ∧ Below W.heap.size W w' from fun W => by
    have := measure_any [111, 97, 116, 101, 110] (by decide) W
    rw [ex_9] at this
    exact this)
  have HR1 := Lib.hid (fun W c h => rdS_made W exW 29 c h)
  have HR2 := Lib.hid (fun W c h => rdS_made W exS 29 c h)
  go_enter Try.func7, Try.ntmps7
  go_wp2
  have R1 := HR1.out w #[.string ⟨#[99, 97, 114, 101, 115, 115, 101, 115]⟩, .string ⟨#[112, 111, 110, 105, 101, 115]⟩, .string ⟨#[104, 111, 112, 112, 105, 110, 103]⟩, .string ⟨#[102, 105, 108, 105, 110, 103]⟩, .string ⟨#[114, 101, 108, 97, 116, 105, 111, 110, 97, 108]⟩, .string ⟨#[103, 101, 110, 101, 114, 97, 108, 105, 122, 97, 116, 105, 111, 110, 115]⟩, .string ⟨#[104, 97, 112, 112, 121]⟩] rfl
  have R2 := HR2.out (w.alloc (.cells #[.string ⟨#[99, 97, 114, 101, 115, 115, 101, 115]⟩, .string ⟨#[112, 111, 110, 105, 101, 115]⟩, .string ⟨#[104, 111, 112, 112, 105, 110, 103]⟩, .string ⟨#[102, 105, 108, 105, 110, 103]⟩, .string ⟨#[114, 101, 108, 97, 116, 105, 111, 110, 97, 108]⟩, .string ⟨#[103, 101, 110, 101, 114, 97, 108, 105, 122, 97, 116, 105, 111, 110, 115]⟩, .string ⟨#[104, 97, 112, 112, 121]⟩] 29)) #[.string ⟨#[99, 97, 114, 101, 115, 115]⟩, .string ⟨#[112, 111, 110, 105]⟩, .string ⟨#[104, 111, 112]⟩, .string ⟨#[102, 105, 108, 101]⟩, .string ⟨#[114, 101, 108, 97, 116]⟩, .string ⟨#[103, 101, 110, 101, 114]⟩, .string ⟨#[104, 97, 112, 112, 105]⟩] rfl
  have R1' := R1.below ((Below.refl _ _).alloc (Nat.le_refl _) (.cells #[.string ⟨#[99, 97, 114, 101, 115, 115]⟩, .string ⟨#[112, 111, 110, 105]⟩, .string ⟨#[104, 111, 112]⟩, .string ⟨#[102, 105, 108, 101]⟩, .string ⟨#[114, 101, 108, 97, 116]⟩, .string ⟨#[103, 101, 110, 101, 114]⟩, .string ⟨#[104, 97, 112, 112, 105]⟩] 29))
  have B0 := ((Below.refl w.heap.size w).alloc (Nat.le_refl _) (.cells #[.string ⟨#[99, 97, 114, 101, 115, 115, 101, 115]⟩, .string ⟨#[112, 111, 110, 105, 101, 115]⟩, .string ⟨#[104, 111, 112, 112, 105, 110, 103]⟩, .string ⟨#[102, 105, 108, 105, 110, 103]⟩, .string ⟨#[114, 101, 108, 97, 116, 105, 111, 110, 97, 108]⟩, .string ⟨#[103, 101, 110, 101, 114, 97, 108, 105, 122, 97, 116, 105, 111, 110, 115]⟩, .string ⟨#[104, 97, 112, 112, 121]⟩] 29)).alloc (by simp) (.cells #[.string ⟨#[99, 97, 114, 101, 115, 115]⟩, .string ⟨#[112, 111, 110, 105]⟩, .string ⟨#[104, 111, 112]⟩, .string ⟨#[102, 105, 108, 101]⟩, .string ⟨#[114, 101, 108, 97, 116]⟩, .string ⟨#[103, 101, 110, 101, 114]⟩, .string ⟨#[104, 97, 112, 112, 105]⟩] 29)
  simp only [World.size_alloc] at R2
  obtain ⟨W0, hW0⟩ : ∃ W0, (w.alloc (.cells #[.string ⟨#[99, 97, 114, 101, 115, 115, 101, 115]⟩, .string ⟨#[112, 111, 110, 105, 101, 115]⟩, .string ⟨#[104, 111, 112, 112, 105, 110, 103]⟩, .string ⟨#[102, 105, 108, 105, 110, 103]⟩, .string ⟨#[114, 101, 108, 97, 116, 105, 111, 110, 97, 108]⟩, .string ⟨#[103, 101, 110, 101, 114, 97, 108, 105, 122, 97, 116, 105, 111, 110, 115]⟩, .string ⟨#[104, 97, 112, 112, 121]⟩] 29)).alloc (.cells #[.string ⟨#[99, 97, 114, 101, 115, 115]⟩, .string ⟨#[112, 111, 110, 105]⟩, .string ⟨#[104, 111, 112]⟩, .string ⟨#[102, 105, 108, 101]⟩, .string ⟨#[114, 101, 108, 97, 116]⟩, .string ⟨#[103, 101, 110, 101, 114]⟩, .string ⟨#[104, 97, 112, 112, 105]⟩] 29) = W0 := ⟨_, rfl⟩
  rw [hW0] at R1' R2 B0 ⊢
  have HB0 := Lib.hid B0
  have H1 := Lib.hid R1'
  have H2 := Lib.hid R2
  clear hW0 R1 R1' R2 B0 HR1 HR2
  go_loopw [3] (fun i wr => (∃ k : Nat, k ≤ 7 ∧ i = .int .i64 k) ∧ (Below w.heap.size w wr ∧ RdS wr w.heap.size exW ∧ RdS wr (w.heap.size + 1) exS)) (fun i _ => 7 - (intOf i).toNat)
  case atStart => exact ⟨⟨0, by omega, rfl⟩, HB0.out, H1.out, H2.out⟩
  case round =>
    obtain ⟨⟨k, hk, rfl⟩, hB, h1, h2⟩ := hrel
    have HB := Lib.hid hB
    clear hB
    by_cases hlt : k < 7
    · obtain ⟨x, hx, hy, hxl⟩ := ex_all hlt
      have c1 := h1 k x hx
      have c2 := h2 k _ hy
      have l1 := cell_lt' c1
      have l2 := cell_lt' c2
      have G1 := Lib.hid h1
      have G2 := Lib.hid h2
      have KS := Lib.hid fun W (hb : Below wr.heap.size wr W) => (stem_any x (by omega) W).mono (fun e w' h => (⟨h.1, hb.trans (h.2.mono hb.size)⟩ : e = _ ∧ Below wr.heap.size wr w'))
      obtain ⟨y, hyy⟩ : ∃ y, y = mkB (stemL x) := ⟨_, rfl⟩
      rw [← hyy] at c2 KS
      clear h1 h2 hx hy hyy hxl
      go_wp2
      go_region_held_law (fun W => W.cell? ⟨w.heap.size, k, none⟩ = some (.string (mkB x)) ∧ W.cell? ⟨w.heap.size + 1, k, none⟩ = some (.string y)) (first | exact ⟨c1, c2⟩ | exact ⟨kp' hb5 l1 c1, kp' hb5 l2 c2⟩ | go_keep) ((go_at_call 9; refine (KS.out _ (by first | exact Below.refl _ _ | exact (Below.refl _ _).drew)).mono ?_; rintro e w' ⟨rfl, hb5⟩))
      all_goals go_wp2
      all_goals go_roundw
      all_goals first
        | (case rel => exact ⟨⟨k + 1, by omega, by go_num⟩, HB.out.trans (below_drewN (hb5.mono HB.out.size) 0), G1.out.below hb5, G2.out.below hb5⟩)
        | (case measure => simp [intOf]; omega)
    · go_wp2_with (first
        | (go_at_call 6; (with_reducible refine (KM1.out _).mono ?_); rintro _ w1 ⟨rfl, hb1⟩; have HB1 := Lib.hid (HB.out.trans (hb1.mono HB.out.size)); clear hb1)
        | (go_at_call 6; (with_reducible refine (KM2.out _).mono ?_); rintro _ w2 ⟨rfl, hb2⟩; have HB2 := Lib.hid (HB1.out.trans (hb2.mono HB1.out.size)); clear hb2))
      go_ret
      exact ⟨rfl, HB2.out⟩
end Go.Proofs.Ytoainljghfldlaa
