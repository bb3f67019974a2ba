/- The law's row, the document's Sign: the walks. -/
import Derived.Test.YtdpgoddhchoefaaWRefMul
import Derived.Test.YtdpgoddhchoefaaWCmp
namespace Go.Proofs.Ytdpgoddhchoefaa
open Go.RowKit
set_option linter.unusedVariables false

set_option maxRecDepth 100000 in
set_option maxHeartbeats 4000000 in
theorem row_any (x : Int) (w : World) : Calls Try.prog 15 #[.agg #[.int .i64 (hiW x), .int .u64 (loW x)]] w fun e w' => e = .returned (rowV x) ∧ Below w.heap.size w w' := by
  have kc := fun W => refOf_any x W
  unfold rowV at kc
  have KC := Lib.hid kc
  have hR := arrI_start (w.alloc (.cells #[.int .i64 (hiW x), .int .u64 (loW x)] 24)) 26
  rw [World.size_alloc] at hR
  have HR := Lib.hid hR
  clear kc hR
  go_enter Try.func15, Try.ntmps15
  go_wp2_with (go_at_call 62; (with_reducible refine (KC.out _).mono ?_); rintro e w3 ⟨rfl, l3⟩; have L3 := Lib.hid (((Below.refl w.heap.size w).alloc (Nat.le_refl _) _ |>.alloc (by simp) _).trans (l3.mono (by simp; omega))); have HR3 := Lib.hid (ArrI.keep HR.out l3 (by simp)); obtain ⟨r0, r1, r2, r3, r4, r5, r6, r7⟩ := HR3.out.cells (G := fun _ => 0) (fun _ _ => rfl); obtain ⟨z0, z1, z2, z3, z4, z5, z6, z7⟩ := HR3.out.free; clear l3)
  go_wp2
  have hE := HR3.out.eight (rowF x)
  have lE := below_eight L3.out (show w.heap.size ≤ w.heap.size + 1 by omega) (rowF x)
  generalize ((((((((w3.setCell ⟨w.heap.size + 1, 0, none⟩ (.int .i64 (rowF x 0))).setCell ⟨w.heap.size + 1, 1, none⟩ (.int .i64 (rowF x 1))).setCell ⟨w.heap.size + 1, 2, none⟩ (.int .i64 (rowF x 2))).setCell ⟨w.heap.size + 1, 3, none⟩ (.int .i64 (rowF x 3))).setCell ⟨w.heap.size + 1, 4, none⟩ (.int .i64 (rowF x 4))).setCell ⟨w.heap.size + 1, 5, none⟩ (.int .i64 (rowF x 5))).setCell ⟨w.heap.size + 1, 6, none⟩ (.int .i64 (rowF x 6))).setCell ⟨w.heap.size + 1, 7, none⟩ (.int .i64 (rowF x 7))) = W at hE lE ⊢
  obtain ⟨u0, u1, u2, u3, u4, u5, u6, u7⟩ := hE.cells (G := rowF x) fun _ _ => rfl
  exact bodyPost_ret (v := rowV x) (by simp [results, Try.results15, go_sem, rowV, u0, u1, u2, u3, u4, u5, u6, u7]) rfl ⟨rfl, lE⟩
set_option maxRecDepth 100000 in
set_option maxHeartbeats 4000000 in
theorem refSign_any (x : Int) (w : World) : Calls Try.prog 24 #[.agg #[.int .i64 (rowF x 0), .int .i64 (rowF x 1), .int .i64 (rowF x 2), .int .i64 (rowF x 3), .int .i64 (rowF x 4), .int .i64 (rowF x 5), .int .i64 (rowF x 6), .int .i64 (rowF x 7)]] w fun e w' => e = .returned (.int .i64 (sgnI (svW x))) ∧ Below w.heap.size w w' := by
  have hA := arrI_box w 26 (rowF x)
  have h7 : (w.alloc (.cells #[.int .i64 (rowF x 0), .int .i64 (rowF x 1), .int .i64 (rowF x 2), .int .i64 (rowF x 3), .int .i64 (rowF x 4), .int .i64 (rowF x 5), .int .i64 (rowF x 6), .int .i64 (rowF x 7)] 26)).cell? ⟨w.heap.size, 7, none⟩ = some (.int .i64 (rowF x 7)) := World.rowIs.cell hA (by omega)
  have HA := Lib.hid hA
  have hl : Below w.heap.size w (w.alloc (.cells #[.int .i64 (rowF x 0), .int .i64 (rowF x 1), .int .i64 (rowF x 2), .int .i64 (rowF x 3), .int .i64 (rowF x 4), .int .i64 (rowF x 5), .int .i64 (rowF x 6), .int .i64 (rowF x 7)] 26)) := (Below.refl _ _).alloc (Nat.le_refl _) _
  have HL := Lib.hid hl
  clear hA h7 hl
  by_cases hs : svW x < 0
  · have h1 := (row_neg x).2 hs
    rw [sgn_neg hs]
    clear hs
    go_enter Try.func24, Try.ntmps24
    go_wp2
    go_ret
    exact ⟨rfl, HL.out⟩
  · have h1 : ¬ 32768 ≤ rowF x 7 := fun h => hs ((row_neg x).1 h)
    have HS := Lib.hid hs
    obtain ⟨b0, hb0⟩ : ∃ b0, b0 = w.alloc (.cells #[.int .i64 (rowF x 0), .int .i64 (rowF x 1), .int .i64 (rowF x 2), .int .i64 (rowF x 3), .int .i64 (rowF x 4), .int .i64 (rowF x 5), .int .i64 (rowF x 6), .int .i64 (rowF x 7)] 26) := ⟨_, rfl⟩
    have HB0 := Lib.hid hb0
    clear hs hb0
    go_enter Try.func24, Try.ntmps24
    go_wp2
    go_loopw [3] (fun i wr => ∃ k : Nat, i = .int .i64 k ∧ k ≤ 8 ∧ (∀ j, j < k → rowF x j = 0) ∧ wr = b0) (fun i _ => 8 - (intOf i).toNat)
    case atStart => exact ⟨0, rfl, by omega, fun j hj => by omega, HB0.out.symm⟩
    case round =>
      obtain ⟨k, rfl, hk, hz, hw⟩ := hrel
      subst hw
      rw [← HB0.out] at HA HL
      by_cases hlt : k < 8
      · have hc := World.rowIs.cell HA.out hlt
        have hkI : (k : Int) < 8 := by omega
        by_cases h0 : rowF x k = 0
        · rw [h0] at hc
          have HZ : Hid (∀ j, j < k + 1 → rowF x j = 0) := Lib.hid fun j hj => by
            by_cases e : j = k
            · rw [e]; exact h0
            · exact hz j (by omega)
          clear hz h0
          go_wp2
          go_roundw
          case rel => exact ⟨k + 1, by go_num, by omega, HZ.out, by trivial⟩
          case measure => simp [intOf]; omega
        · have hne : (rowF x k != 0) = true := by simpa using h0
          have hp : 0 < svW x := by have := row_some x k hlt h0; have := HS.out; omega
          have HP := Lib.hid hp
          clear h0 hz hp
          go_wp2
          go_ret
          exact ⟨ret_i (sgn_pos HP.out).symm, HL.out⟩
      · obtain rfl : k = 8 := by omega
        have HZ := Lib.hid (row_zero x hz)
        clear hz
        go_wp2
        go_ret
        exact ⟨ret_i (sgn_zero HZ.out).symm, HL.out⟩
end Go.Proofs.Ytdpgoddhchoefaa
