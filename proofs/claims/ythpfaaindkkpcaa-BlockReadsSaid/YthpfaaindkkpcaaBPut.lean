/- block.put, putAbove: every number. -/
import Derived.Test.YthpfaaindkkpcaaBBytes
namespace Go.Proofs.Ythpfaaindkkpcaa
open Go.RowKit Go.Maps
set_option linter.unusedVariables false
set_option linter.unusedSimpArgs false

theorem orFin : ∀ x : Fin 256, bits BinOp.or IntKind.u8 (x.val : Int) 128 = ((x.val % 128 + 128 : Nat) : Int) := by decide +kernel
theorem notFin : ∀ x : Fin 256, bits BinOp.andNot IntKind.u8 (x.val : Int) 128 = ((x.val % 128 : Nat) : Int) := by decide +kernel
theorem or_piece (n t : Nat) : bits BinOp.or IntKind.u8 ((n : Int) / 2 ^ (t * 7) % 256) 128 = ((n / 128 ^ t % 128 + 128 : Nat) : Int) := by
  have e : (n : Int) / 2 ^ (t * 7) % 256 = ((n / 128 ^ t % 256 : Nat) : Int) := by rw [← pow128]; simp
  rw [e]
  have := orFin ⟨n / 128 ^ t % 256, Nat.mod_lt _ (by omega)⟩
  dsimp only at this
  rw [this, Nat.mod_mod_of_dvd _ (by decide)]
theorem not_piece (n : Nat) : bits BinOp.andNot IntKind.u8 ((n : Int) % 256) 128 = ((n % 128 : Nat) : Int) := by
  have e : (n : Int) % 256 = ((n % 256 : Nat) : Int) := by simp
  rw [e]
  have := notFin ⟨n % 256, Nat.mod_lt _ (by omega)⟩
  dsimp only at this
  rw [this, Nat.mod_mod_of_dvd _ (by decide)]
set_option maxHeartbeats 8000000 in
theorem put_any (base : Nat) (v : Value) (xs : List Nat) (n : Nat) (w : World) (hn : n < 9223372036854775808) (hown : OwnU w base v xs) (hlen : xs.length ≤ 70368744177664) (hbase : base ≤ w.heap.size) :
    Calls Try.prog 28 #[v, .int .i64 n] w fun e w' => ∃ v', e = .returned v' ∧ OwnU w' base v' (xs ++ numL n) ∧ w.grownBy w' v.ownBlock ∧ NewOr w v v' := by
  have hb : ∀ w, Calls Try.prog 32 #[.int .u64 n] w fun e w' => e = .returned (.int .i64 (Lib.bitLen n)) ∧ w = w' := by
    intro w
    refine (Try.bits_Len n w (by omega) (by omega)).mono ?_
    rintro e w' ⟨rfl, rfl⟩
    rw [Int.toNat_natCast]
    exact ⟨rfl, rfl⟩
  have HBl := Lib.hid hb
  have hb64 := Lib.bitLen_le n 64 (by omega) (by omega)
  have HP := Lib.hid (pcs_code hn)
  generalize Lib.bitLen n = bl at *
  clear hb
  go_enter Try.func28, Try.ntmps28
  go_wp2_with (go_at_call 32; (with_reducible refine (HBl.out _).mono ?_); rintro e w1 ⟨rfl, rfl⟩)
  have hp8 := pcs_le hn
  have HH := Lib.hid (hi_top n)
  have HO := Lib.hid hown
  have HSt : Hid (∀ t, 1 ≤ t → t ≤ pcsN n → hiL (n / 128 ^ t) = hiL (n / 128 ^ (t + 1)) ++ [n / 128 ^ t % 128 + 128]) := Lib.hid fun t h1 h2 => hi_step2 h1 h2
  have HBn := Lib.hid hn
  clear hown hn HBl
  generalize pcsN n = pc at *
  go_loopw [0, 5] (fun v1 q wr => ∃ t : Nat, t ≤ pc ∧ q = .int .i64 t ∧ OwnU wr base v1 (xs ++ hiL (n / 128 ^ (t + 1))) ∧ w.grownBy wr v.ownBlock ∧ NewOr w v v1) (fun _ q _ => (intOf q).toNat)
  case atStart => exact ⟨pc, Nat.le_refl _, by rw [← HP.out], by rw [HH.out, List.append_nil]; exact HO.out, World.grownBy.refl w _, .inl rfl⟩
  case round =>
    obtain ⟨t, ht, rfl, ho, hg, hnw⟩ := hrel
    have HOn := Lib.hid ho
    have HG := Lib.hid hg
    have HW := Lib.hid hnw
    have hsz := hg.size
    clear ho hg hnw
    by_cases h0 : 1 ≤ t
    · have HS2 := Lib.hid (HSt.out t h0 ht)
      have HBt := Lib.hid (or_piece n t)
      have hl2 : (xs ++ hiL (n / 128 ^ (t + 1))).length ≤ 70368744177764 := by
        rw [List.length_append]
        have := hi_len 10 (n / 128 ^ (t + 1)) (by have := Nat.div_le_self n (128 ^ (t + 1)); have := HBn.out; omega)
        omega
      have HL := Lib.hid hl2
      clear hl2
      go_wp2_with (at_builtin; rw [HBt.out]; go_loud (refine wpList_pushU wr rfl _ _ 22 rfl Try.underlying22 u8infoAll base u0 _ rfl HOn.out _ rfl (by have := HL.out; omega) (by omega) ?_); intro v2 w2 ho2 hg2 hn2; have HO2 := Lib.hid ho2; have HG2 := Lib.hid hg2; have HN2 := Lib.hid hn2; clear ho2 hg2 hn2)
      go_roundw
      case rel => exact ⟨t - 1, by omega, by simp; omega, by rw [show t - 1 + 1 = t by omega, HS2.out, ← List.append_assoc]; exact HO2.out, grown_trans HG.out HW.out HG2.out, newOr_trans HW.out HN2.out hsz⟩
      case measure => simp [intOf]; omega
    · have h00 : t = 0 := by omega
      subst h00
      have HBt := Lib.hid (not_piece n)
      have hl2 : (xs ++ hiL (n / 128 ^ (0 + 1))).length ≤ 70368744177764 := by
        rw [List.length_append]
        have := hi_len 10 (n / 128 ^ (0 + 1)) (by have := Nat.div_le_self n (128 ^ (0 + 1)); have := HBn.out; omega)
        omega
      have HL := Lib.hid hl2
      clear hl2 h0
      go_wp2_with (at_builtin; rw [HBt.out]; go_loud (refine wpList_pushU wr rfl _ _ 22 rfl Try.underlying22 u8infoAll base u0 _ rfl HOn.out _ rfl (by have := HL.out; omega) (by omega) ?_); intro v2 w2 ho2 hg2 hn2; have HO2 := Lib.hid ho2; have HG2 := Lib.hid hg2; have HN2 := Lib.hid hn2; clear ho2 hg2 hn2)
      go_ret
      exact ⟨_, rfl, by unfold numL; rw [← List.append_assoc]; simpa using HO2.out, grown_trans HG.out HW.out HG2.out, newOr_trans HW.out HN2.out hsz⟩
theorem putAbove_any (base : Nat) (v : Value) (xs : List Nat) (n ahead : Int) (w : World) (h0 : 0 ≤ n - ahead - 1) (h1 : n ≤ 9007199254740992) (h2 : -1 ≤ ahead) (hown : OwnU w base v xs) (hlen : xs.length ≤ 70368744177664) (hbase : base ≤ w.heap.size) :
    Calls Try.prog 29 #[v, .int .i64 n, .int .i64 ahead] w fun e w' => ∃ v', e = .returned v' ∧ OwnU w' base v' (xs ++ numL (gapN n ahead)) ∧ w.grownBy w' v.ownBlock ∧ NewOr w v v' := by
  have h := put_any base v xs (gapN n ahead) w (by unfold gapN; omega) hown hlen hbase
  have e : ((gapN n ahead : Nat) : Int) = n - ahead - 1 := by unfold gapN; omega
  rw [e] at h
  have HP := Lib.hid h
  clear h e hown
  have h3 : ahead ≤ 9007199254740992 := by omega
  have h4 : -1 ≤ n := by omega
  go_enter Try.func29, Try.ntmps29
  go_wp2_with (go_at_call 28; (with_reducible refine HP.out.mono ?_); rintro e w1 ⟨v', rfl, hq⟩; have HQ := Lib.hid hq; clear hq)
  go_ret
  exact ⟨_, rfl, HQ.out⟩
end Go.Proofs.Ythpfaaindkkpcaa
