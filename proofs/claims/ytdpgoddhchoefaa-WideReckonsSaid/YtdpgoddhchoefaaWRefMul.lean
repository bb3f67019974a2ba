/- The document's Mul: the walk. -/
import Derived.Test.YtdpgoddhchoefaaWRefPlus
namespace Go.Proofs.Ytdpgoddhchoefaa
open Go.RowKit
set_option linter.unusedVariables false

theorem sum_split (F : Nat → Int) (m : Nat) : ∀ n, m ≤ n → ∃ q, sumR F n = sumR F m + 65536 ^ m * q
  | 0, h => ⟨0, by rw [Nat.le_zero.1 h]; simp⟩
  | n + 1, h => by
    by_cases e : m = n + 1
    · exact ⟨0, by rw [e]; simp⟩
    · obtain ⟨q, hq⟩ := sum_split F m n (by omega)
      refine ⟨q + F n * 65536 ^ (n - m), ?_⟩
      show sumR F n + F n * 65536 ^ n = _
      have hp : (65536 : Int) ^ n = 65536 ^ m * 65536 ^ (n - m) := by rw [← Int.pow_add]; congr 1; omega
      rw [hq, hp, Int.mul_add, Int.add_assoc, Int.mul_left_comm]
/-- What the nested loops have added up, but for multiples of 2^128. -/
def Mod8 (a b : Int) : Prop := ∃ q, a = b + 65536 ^ 8 * q
theorem mod8_step {S A B p q : Int} {i k : Nat} (h : Mod8 S (A + p * 65536 ^ i * B)) : Mod8 (S + p * q * 65536 ^ (i + k)) (A + p * 65536 ^ i * (B + q * 65536 ^ k)) := by
  obtain ⟨r, hr⟩ := h
  refine ⟨r, ?_⟩
  have e : p * q * 65536 ^ (i + k) = p * 65536 ^ i * (q * 65536 ^ k) := by
    rw [Int.pow_add]
    simp only [Int.mul_assoc, Int.mul_left_comm]
  rw [hr, Int.mul_add, ← e]
  omega
theorem mod8_over {S A p : Int} {i : Nat} (hi : i ≤ 8) (G : Nat → Int) (h : Mod8 S (A * sumR G 8 + p * 65536 ^ i * sumR G (8 - i))) : Mod8 S ((A + p * 65536 ^ i) * sumR G 8) := by
  obtain ⟨r, hr⟩ := h
  obtain ⟨q, hq⟩ := sum_split G (8 - i) 8 (by omega)
  refine ⟨r - p * q, ?_⟩
  have hp : (65536 : Int) ^ 8 = 65536 ^ i * 65536 ^ (8 - i) := by rw [← Int.pow_add]; congr 1; omega
  have e : p * 65536 ^ i * (65536 ^ (8 - i) * q) = 65536 ^ 8 * (p * q) := by
    rw [hp]
    simp only [Int.mul_assoc, Int.mul_left_comm]
  have e2 : p * 65536 ^ i * sumR G 8 = p * 65536 ^ i * sumR G (8 - i) + 65536 ^ 8 * (p * q) := by rw [hq, Int.mul_add, e]
  rw [hr, Int.add_mul, e2, Int.mul_sub]
  omega
theorem mod8_row {S x y : Int} (h : Mod8 S (sumR (rowF x) 8 * sumR (rowF y) 8)) (i : Nat) (hi : i < 8) : rowF S i = rowF (x * y) i := by
  obtain ⟨q, hq⟩ := h
  rw [sum_row, sum_row] at hq
  refine row_cong ?_ i hi
  have hp : (65536 : Int) ^ 8 = 340282366920938463463374607431768211456 := by decide
  rw [hq, hp, Int.add_mul_emod_self_left, ← Int.mul_emod]
theorem prod_bd {p q : Int} (p0 : 0 ≤ p) (p1 : p < 65536) (q0 : 0 ≤ q) (q1 : q < 65536) : 0 ≤ p * q ∧ p * q ≤ 4294836225 :=
  ⟨Int.mul_nonneg p0 q0, Int.mul_le_mul (by omega : p ≤ 65535) (by omega : q ≤ 65535) q0 (by omega)⟩
set_option maxRecDepth 100000 in
set_option maxHeartbeats 4000000 in
theorem refMul_any (x y : Int) (w : World) : Calls Try.prog 32 #[.agg #[.int .i64 (rowF x 0), .int .i64 (rowF x 1), .int .i64 (rowF x 2), .int .i64 (rowF x 3), .int .i64 (rowF x 4), .int .i64 (rowF x 5), .int .i64 (rowF x 6), .int .i64 (rowF x 7)], .agg #[.int .i64 (rowF y 0), .int .i64 (rowF y 1), .int .i64 (rowF y 2), .int .i64 (rowF y 3), .int .i64 (rowF y 4), .int .i64 (rowF y 5), .int .i64 (rowF y 6), .int .i64 (rowF y 7)]] w fun e w' => e = .returned (rowV (x * y)) ∧ Below w.heap.size w w' := by
  have KC := Lib.hid (fun (F : Nat → Int) (hm : Mod8 (sumR F 8) (sumR (rowF x) 8 * sumR (rowF y) 8)) (hb : ∀ t, 0 ≤ F t ∧ F t ≤ 4294836225 * 64) (W : World) => (show Calls Try.prog 64 #[.agg #[.int .i64 (F 0), .int .i64 (F 1), .int .i64 (F 2), .int .i64 (F 3), .int .i64 (F 4), .int .i64 (F 5), .int .i64 (F 6), .int .i64 (F 7)]] W fun e w' => e = .returned (.agg #[.int .i64 (rowF (x * y) 0), .int .i64 (rowF (x * y) 1), .int .i64 (rowF (x * y) 2), .int .i64 (rowF (x * y) 3), .int .i64 (rowF (x * y) 4), .int .i64 (rowF (x * y) 5), .int .i64 (rowF (x * y) 6), .int .i64 (rowF (x * y) 7)]) ∧ Below W.heap.size W w' from by
    have k := carry_any F (fun i _ => by have := hb i; omega) W
    rw [rowV_congr (fun i hi => mod8_row hm i hi)] at k
    exact k))
  obtain ⟨b0, hb0⟩ : ∃ b0, b0 = ((w.alloc (.cells #[.int .i64 (rowF x 0), .int .i64 (rowF x 1), .int .i64 (rowF x 2), .int .i64 (rowF x 3), .int .i64 (rowF x 4), .int .i64 (rowF x 5), .int .i64 (rowF x 6), .int .i64 (rowF x 7)] 26)).alloc (.cells #[.int .i64 (rowF y 0), .int .i64 (rowF y 1), .int .i64 (rowF y 2), .int .i64 (rowF y 3), .int .i64 (rowF y 4), .int .i64 (rowF y 5), .int .i64 (rowF y 6), .int .i64 (rowF y 7)] 26)) := ⟨_, rfl⟩
  have hx0 := arrI_box w 26 (rowF x)
  have hy0 := arrI_box (w.alloc (.cells #[.int .i64 (rowF x 0), .int .i64 (rowF x 1), .int .i64 (rowF x 2), .int .i64 (rowF x 3), .int .i64 (rowF x 4), .int .i64 (rowF x 5), .int .i64 (rowF x 6), .int .i64 (rowF x 7)] 26)) 26 (rowF y)
  rw [World.size_alloc, ← hb0] at hy0
  have hx1 : ArrI b0 26 w.heap.size (rowF x) := by rw [hb0]; exact ArrI.keep hx0 ((Below.refl _ _).alloc (Nat.le_refl _) _) (by simp)
  have hs0 : b0.heap.size = w.heap.size + 1 + 1 := by rw [hb0]; simp
  have hl0 : Below w.heap.size w b0 := by rw [hb0]; exact ((Below.refl _ _).alloc (Nat.le_refl _) _).alloc (by simp) _
  have bb : Below b0.heap.size b0 (b0.alloc (.cells (Array.replicate 8 (.int .i64 0)) 26)) := (Below.refl _ _).alloc (Nat.le_refl _) _
  have H0 := Lib.hid (And.intro hb0 (And.intro (ArrI.keep hx1 bb (by omega)) (And.intro (ArrI.keep hy0 bb (by omega)) (And.intro hs0 (And.intro hl0 bb)))))
  clear hb0 hx0 hy0 hx1 hs0 hl0 bb
  go_enter Try.func32, Try.ntmps32
  go_wp2
  go_loopw [6] (fun i wr => ∃ (k : Nat) (F : Nat → Int), i = .int .i64 k ∧ k ≤ 8 ∧ Mod8 (sumR F 8) (sumR (rowF x) k * sumR (rowF y) 8) ∧ (∀ t, 0 ≤ F t ∧ F t ≤ 4294836225 * (8 * k)) ∧ ArrI wr 25 (w.heap.size + 1 + 1 + 1) F ∧ Below (w.heap.size + 1 + 1 + 1) (b0.alloc (.cells (Array.replicate 8 (.int .i64 0)) 26)) wr) (fun i _ => 8 - (intOf i).toNat)
  case atStart =>
    obtain ⟨hb0, hx0, hy0, hs0, hl0, bb⟩ := H0.out
    refine ⟨0, fun _ => 0, rfl, by omega, ⟨0, by show _ = 0 * _ + _ * 0; rw [Int.zero_mul, Int.mul_zero]; rfl⟩, fun t => by show (0 : Int) ≤ 0 ∧ (0 : Int) ≤ _; omega, ?_, ?_⟩
    · have h := arrI_start (b0.alloc (.cells (Array.replicate 8 (.int .i64 0)) 26)) 25
      rw [World.size_alloc, hs0] at h
      rw [hb0] at h
      exact h
    · rw [hb0]
      exact (Below.refl _ _).alloc (by simp) _
  case round =>
    obtain ⟨i, F0, rfl, hi8, hm0, hbd0, hF0, hbel0⟩ := hrel
    obtain ⟨wo, hwo⟩ : ∃ wo, wo = wr := ⟨_, rfl⟩
    subst hwo
    have HF0 := Lib.hid hF0
    have HM0 := Lib.hid hm0
    have HB0 := Lib.hid hbd0
    have HBel0 := Lib.hid hbel0
    by_cases hi : i < 8
    · obtain ⟨hb0, hx0, hy0, hs0, hl0, bb⟩ := H0.out
      obtain ⟨p, hp⟩ : ∃ p, p = rowF x i := ⟨_, rfl⟩
      have pb : 0 ≤ p ∧ p < 65536 := by rw [hp]; exact rowF_bd _ _
      have HP := Lib.hid hp
      have hiI : (i : Int) < 8 := by omega
      have hi0 : 0 ≤ (i : Int) := by omega
      clear hp hF0 hm0 hbd0 hbel0 hb0 hx0 hy0 hs0 hl0 bb
      go_wp2_with fail
      go_loopw [7] (fun j wr => ∃ (k : Nat) (F : Nat → Int), j = .int .i64 k ∧ k ≤ 8 - i ∧ Mod8 (sumR F 8) (sumR (rowF x) i * sumR (rowF y) 8 + p * 65536 ^ i * sumR (rowF y) k) ∧ (∀ t, 0 ≤ F t ∧ F t ≤ 4294836225 * (8 * i + k)) ∧ ArrI wr 25 (w.heap.size + 1 + 1 + 1) F ∧ Below (w.heap.size + 1 + 1 + 1) (b0.alloc (.cells (Array.replicate 8 (.int .i64 0)) 26)) wr) (fun j _ => 8 - (intOf j).toNat)
      case atStart =>
        refine ⟨0, F0, rfl, by omega, ?_, fun t => by have := HB0.out t; omega, HF0.out, HBel0.out⟩
        show Mod8 _ (_ + _ * 0)
        rw [Int.mul_zero, Int.add_zero]
        exact HM0.out
      case round =>
        obtain ⟨k, F, rfl, hk, hm, hbd, hF, hbel⟩ := hrel
        obtain ⟨wi, hwi⟩ : ∃ wi, wi = wr := ⟨_, rfl⟩
        subst hwi
        have HF := Lib.hid hF
        have HM := Lib.hid hm
        have HB := Lib.hid hbd
        have HBel := Lib.hid hbel
        by_cases hlk : k < 8 - i
        · obtain ⟨hb0, hx0, hy0, hs0, hl0, bb⟩ := H0.out
          obtain ⟨q, hq⟩ : ∃ q, q = rowF y k := ⟨_, rfl⟩
          have qb : 0 ≤ q ∧ q < 65536 := by rw [hq]; exact rowF_bd _ _
          obtain ⟨f, hf⟩ : ∃ f, f = F (i + k) := ⟨_, rfl⟩
          obtain ⟨z, hz⟩ : ∃ z, z = p * q := ⟨_, rfl⟩
          have zb := prod_bd pb.1 pb.2 qb.1 qb.2
          rw [← hz] at zb
          have fb : 0 ≤ f ∧ f ≤ 4294836225 * 72 := by rw [hf]; have := hbd (i + k); omega
          have hca : wi.cell? ⟨w.heap.size, i, none⟩ = some (.int .i64 p) := by rw [HP.out]; exact World.rowIs.cell (ArrI.keep hx0 hbel (by omega)) (by omega)
          have hcb : wi.cell? ⟨w.heap.size + 1, k, none⟩ = some (.int .i64 q) := by rw [hq]; exact World.rowIs.cell (ArrI.keep hy0 hbel (by omega)) (by omega)
          have hcc : wi.cell? ⟨w.heap.size + 1 + 1 + 1, i + k, none⟩ = some (.int .i64 f) := by rw [hf]; exact World.rowIs.cell hF (by omega)
          have hzz : wi.frozen? ⟨w.heap.size + 1 + 1 + 1, i + k, none⟩ = false := World.rowIs.frozen hF _
          have hN : Hid (Mod8 (sumR (updI F (i + k) (f + z)) 8) (sumR (rowF x) i * sumR (rowF y) 8 + p * 65536 ^ i * sumR (rowF y) (k + 1))) := Lib.hid (by
            rw [hf, sumI_add F (i + k) z 8 (by omega), hz]
            show Mod8 _ (_ + p * 65536 ^ i * (sumR (rowF y) k + rowF y k * 65536 ^ k))
            rw [← hq]
            exact mod8_step hm)
          have hBN : Hid (∀ t, 0 ≤ updI F (i + k) (f + z) t ∧ updI F (i + k) (f + z) t ≤ 4294836225 * (8 * (i : Int) + ((k + 1 : Nat) : Int))) := Lib.hid fun t => by
            by_cases e : t = i + k
            · rw [e, upd_at]; have := hbd (i + k); rw [← hf] at this; omega
            · rw [upd_off _ _ _ _ e]; have := hbd t; omega
          have ek : ((i : Int) + (k : Int)).toNat = i + k := by omega
          have w1' : IntKind.i64.wrap ((i : Int) + k) = (i : Int) + k := IntWalk.i64_in _ (by omega)
          have w2' : IntKind.i64.wrap (p * q) = z := by rw [← hz]; exact IntWalk.i64_in _ (by omega)
          have w4' : p * q = z := hz.symm
          have w3' : IntKind.i64.wrap (f + z) = f + z := IntWalk.i64_in _ (by omega)
          have b1 : 0 ≤ (i : Int) + k := by omega
          have b2 : (i : Int) + k < 8 := by omega
          have b3 : (i : Nat) + k < 8 := by omega
          have b4 : (k : Int) < 8 := by omega
          have b5 : (k : Int) < 8 - (i : Int) := by omega
          clear hf hq hz hF hm hbd hbel hb0 hx0 hy0 hs0 hl0 bb
          go_wp2
          go_region
          have HN : Hid (ArrI ((wi.setCell ⟨w.heap.size + 1 + 1 + 1, i + k, none⟩ (.int .i64 (f + z))).drew) 25 (w.heap.size + 1 + 1 + 1) (updI F (i + k) (f + z))) := Lib.hid (World.rowIs.drew (ArrI.set HF.out (i + k) (f + z) _ rfl))
          have HL2 : Hid (Below (w.heap.size + 1 + 1 + 1) (b0.alloc (.cells (Array.replicate 8 (.int .i64 0)) 26)) ((wi.setCell ⟨w.heap.size + 1 + 1 + 1, i + k, none⟩ (.int .i64 (f + z))).drew)) := Lib.hid ((HBel.out.setCell (by simp) _).drew)
          clear w1' w2' w3' w4' hca hcb hcc hzz ek b1 b2 b3
          go_wp2
          go_roundw
          case rel => exact ⟨k + 1, updI F (i + k) (f + z), by go_num, by omega, hN.out, hBN.out, HN.out, HL2.out⟩
          case measure => simp [intOf]; omega
        · obtain rfl : k = 8 - i := by omega
          have hnl : ¬ (((8 - i : Nat) : Int) < 8 - (i : Int)) := by omega
          have hN : Hid (Mod8 (sumR F 8) (sumR (rowF x) (i + 1) * sumR (rowF y) 8)) := Lib.hid (by
            show Mod8 _ ((sumR (rowF x) i + rowF x i * 65536 ^ i) * _)
            rw [← HP.out]
            exact mod8_over (by omega) (rowF y) hm)
          have hBN : Hid (∀ t, 0 ≤ F t ∧ F t ≤ 4294836225 * (8 * ((i + 1 : Nat) : Int))) := Lib.hid fun t => by have := hbd t; omega
          clear hF hm hbd hbel
          go_wp2
          go_roundw
          case rel => exact ⟨i + 1, F, by go_num, by omega, hN.out, hBN.out, HF.out, HBel.out⟩
          case measure => simp [intOf]; omega
    · obtain rfl : i = 8 := by omega
      obtain ⟨hb0, hx0, hy0, hs0, hl0, bb⟩ := H0.out
      have HL1 := Lib.hid (hl0.trans ((bb.mono (show w.heap.size ≤ b0.heap.size by omega)).trans (hbel0.mono (by omega))))
      obtain ⟨c0, c1, c2, c3, c4, c5, c6, c7⟩ := hF0.cells (G := F0) fun _ _ => rfl
      have hR0 := arrI_start b0 26
      rw [hs0] at hR0
      have HR := Lib.hid (ArrI.keep hR0 hbel0 (by omega))
      have hlt := World.rowIs.lt hF0
      have K := Lib.hid (KC.out F0 hm0 (fun t => by have := hbd0 t; omega))
      clear hF0 hm0 hbd0 hbel0 hb0 hx0 hy0 hs0 hl0 hR0 bb KC
      go_wp2_with (go_at_call 64; (with_reducible refine (K.out _).mono ?_); rintro e w3 ⟨rfl, l3⟩; have L3 := Lib.hid l3; have HR3 := Lib.hid (ArrI.keep HR.out l3 (by omega)); obtain ⟨r0, r1, r2, r3, r4, r5, r6, r7⟩ := HR3.out.cells (G := fun _ => 0) (fun _ _ => rfl); obtain ⟨z0, z1, z2, z3, z4, z5, z6, z7⟩ := HR3.out.free; clear l3)
      go_wp2
      have hE := HR3.out.eight (rowF (x * y))
      have lE := below_eight (HL1.out.trans (L3.out.mono HL1.out.size)) (show w.heap.size ≤ w.heap.size + 1 + 1 by omega) (rowF (x * y))
      generalize ((((((((w3.setCell ⟨w.heap.size + 1 + 1, 0, none⟩ (.int .i64 (rowF (x * y) 0))).setCell ⟨w.heap.size + 1 + 1, 1, none⟩ (.int .i64 (rowF (x * y) 1))).setCell ⟨w.heap.size + 1 + 1, 2, none⟩ (.int .i64 (rowF (x * y) 2))).setCell ⟨w.heap.size + 1 + 1, 3, none⟩ (.int .i64 (rowF (x * y) 3))).setCell ⟨w.heap.size + 1 + 1, 4, none⟩ (.int .i64 (rowF (x * y) 4))).setCell ⟨w.heap.size + 1 + 1, 5, none⟩ (.int .i64 (rowF (x * y) 5))).setCell ⟨w.heap.size + 1 + 1, 6, none⟩ (.int .i64 (rowF (x * y) 6))).setCell ⟨w.heap.size + 1 + 1, 7, none⟩ (.int .i64 (rowF (x * y) 7))) = W at hE lE ⊢
      obtain ⟨u0, u1, u2, u3, u4, u5, u6, u7⟩ := hE.cells (G := rowF (x * y)) fun _ _ => rfl
      exact bodyPost_ret (v := rowV (x * y)) (by simp [results, Try.results32, go_sem, rowV, u0, u1, u2, u3, u4, u5, u6, u7]) rfl ⟨rfl, lE⟩
end Go.Proofs.Ytdpgoddhchoefaa
