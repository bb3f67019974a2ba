/- The disk's small calls. -/
import Derived.Test.YtmeijienfdefjaaDInv
import Derived.BigQuiet
import Derived.Deep.QuietTactic
namespace Go.Proofs.Ytmeijienfdefjaa
open Go.RowKit

/-- Why a sector can't be asked for. -/
def reachI (S : DS) (at_ : Int) : Int := if S.down = true then 4 else if at_ < 0 ∨ (S.N : Int) ≤ at_ then 2 else 0
theorem reach_any [Spare] (at_ : Int) (w : World) (base : Nat) (M : DM) (S : DS) (h : Dsk w base M S) :
    Calls Try.prog 41 #[.pointer (some ⟨M.p, 0, none⟩), .int .i64 at_] w fun e w' => e = .returned (.int .i64 (reachI S at_)) ∧ w = w' := by
  have hc2 := h.c2
  have hc5 := h.c5
  have hN := h.hN
  by_cases hd : S.down = true
  · have R := Lib.hid (show reachI S at_ = 4 from if_pos hd)
    rw [hd] at hc5
    clear hd
    go_enter Try.func41, Try.ntmps41
    go_wp2
    go_ret
    exact ⟨by rw [R.out]; rfl, rfl⟩
  · have hd2 : S.down = false := by simpa using hd
    rw [hd2] at hc5
    by_cases h1 : at_ < 0
    · have R := Lib.hid (show reachI S at_ = 2 by unfold reachI; rw [if_neg hd, if_pos (.inl h1)])
      clear hd hd2
      go_enter Try.func41, Try.ntmps41
      go_wp2
      go_ret
      exact ⟨by rw [R.out]; rfl, rfl⟩
    · by_cases h2 : (S.N : Int) ≤ at_
      · have R := Lib.hid (show reachI S at_ = 2 by unfold reachI; rw [if_neg hd, if_pos (.inr h2)])
        clear hd hd2
        go_enter Try.func41, Try.ntmps41
        go_wp2
        go_ret
        exact ⟨by rw [R.out]; rfl, rfl⟩
      · have R := Lib.hid (show reachI S at_ = 0 by unfold reachI; rw [if_neg hd, if_neg (by omega)])
        clear hd hd2
        go_enter Try.func41, Try.ntmps41
        go_wp2
        go_ret
        exact ⟨by rw [R.out]; rfl, rfl⟩

/-- What a write or a flush counts. -/
def strikeS (S : DS) : DS := if S.armed = 0 then S else if S.armed = 1 then { S with armed := 0, down := true } else { S with armed := S.armed - 1 }
def strikeI (S : DS) : Int := if S.armed = 1 then 4 else 0
theorem strike_any [Spare] (w : World) (base : Nat) (M : DM) (S : DS) (h : Dsk w base M S) :
    Calls Try.prog 49 #[.pointer (some ⟨M.p, 0, none⟩)] w fun e w' => e = .returned (.int .i64 (strikeI S)) ∧ Dsk w' base M (strikeS S) ∧ Turns base M w w' ∧ KeepB base w w' := by
  have hc4 := h.c4
  have hc5 := h.c5
  have hA := h.hA
  have f4 := h.frozen 4
  have f5 := h.frozen 5
  by_cases h0 : S.armed = 0
  · have R := Lib.hid (show strikeI S = 0 by unfold strikeI; rw [if_neg (by omega)])
    have RS := Lib.hid (show strikeS S = S from if_pos h0)
    rw [h0] at hc4
    clear h0 hA
    go_enter Try.func49, Try.ntmps49
    go_wp2
    go_ret
    exact ⟨by rw [R.out]; rfl, by rw [RS.out]; exact h, Turns.refl _ _ _, KeepB.refl _ _⟩
  · have hne : ((S.armed : Int) == 0) = false := by simp; omega
    by_cases h1 : S.armed = 1
    · have R := Lib.hid (show strikeI S = 4 from if_pos h1)
      have RS := Lib.hid (show strikeS S = { S with armed := 0, down := true } by unfold strikeS; rw [if_neg h0, if_pos h1])
      have k1 := h.store 4 (.int .i64 0) { S with armed := 0 } rfl rfl rfl rfl rfl rfl (by simp)
      have k2 := k1.store 5 (.bool true) { S with armed := 0, down := true } rfl rfl rfl rfl rfl rfl (by simp)
      have t2 : Turns base M w _ := (Turns.store w 4 (.int .i64 0)).trans (Turns.store _ 5 (.bool true))
      have b2 := (keepB_store (base := base) (i := 4) (v := .int .i64 0) h.hp (by decide)).trans (keepB_store (base := base) (i := 5) (v := .bool true) k1.hp (by decide))
      have K2 := Lib.hid k2
      have T2 := Lib.hid t2
      have B2 := Lib.hid b2
      rw [h1] at hc4
      clear h0 h1 hA hne k1 k2 t2 b2
      go_enter Try.func49, Try.ntmps49
      go_wp2
      go_ret
      exact ⟨by rw [R.out]; rfl, by rw [RS.out]; exact K2.out, T2.out, B2.out⟩
    · have R := Lib.hid (show strikeI S = 0 from if_neg h1)
      have RS := Lib.hid (show strikeS S = { S with armed := S.armed - 1 } by unfold strikeS; rw [if_neg h0, if_neg h1])
      have e1 : ((S.armed - 1 : Nat) : Int) = (S.armed : Int) - 1 := by omega
      have k1 := h.store 4 (.int .i64 ((S.armed : Int) - 1)) { S with armed := S.armed - 1 } (by unfold diskCells; rw [e1]; rfl) rfl rfl rfl rfl rfl (by simp; omega)
      have b1 := keepB_store (base := base) (i := 4) (v := .int .i64 ((S.armed : Int) - 1)) h.hp (by decide)
      have t1 : Turns base M w _ := Turns.store w 4 (.int .i64 ((S.armed : Int) - 1))
      have K2 := Lib.hid k1
      have T2 := Lib.hid t1
      have B2 := Lib.hid b1
      have h2 : 2 ≤ S.armed := by omega
      clear h0 h1 k1 t1 b1 e1
      go_enter Try.func49, Try.ntmps49
      go_wp2
      go_ret
      exact ⟨by rw [R.out]; rfl, by rw [RS.out]; exact K2.out, T2.out, B2.out⟩

def armS (S : DS) (n : Int) : DS := { S with armed := n.toNat }
theorem arm_any [Spare] (n : Int) (w : World) (base : Nat) (M : DM) (S : DS) (hd : Dsk w base M S) (hn : n ≤ 9223372036854775807) :
    Calls Try.prog 32 #[.pointer (some ⟨M.p, 0, none⟩), .int .i64 n] w fun e w' => e = .returned (.tuple #[]) ∧ Dsk w' base M (armS S n) ∧ Turns base M w w' ∧ KeepB base w w' := by
  have hc4 := hd.c4
  have f4 := hd.frozen 4
  have k1 := Lib.hid (hd.store 4 (.int .i64 (n.toNat : Int)) (armS S n) rfl rfl rfl rfl rfl rfl (by simp [armS]; omega))
  have b1 := Lib.hid (keepB_store (base := base) (i := 4) (v := .int .i64 (n.toNat : Int)) hd.hp (by decide))
  have t1 := Lib.hid (show Turns base M w _ from Turns.store w 4 (.int .i64 (n.toNat : Int)))
  go_enter Try.func32, Try.ntmps32
  go_wp2
  · have e : ((n.toNat : Nat) : Int) = 0 := by omega
    have K := k1.out
    have B := b1.out
    have T := t1.out
    rw [e] at K B T
    go_end0
    exact ⟨rfl, K, T, B⟩
  · have e : ((n.toNat : Nat) : Int) = n := by omega
    have K := k1.out
    have B := b1.out
    have T := t1.out
    rw [e] at K B T
    go_end0
    exact ⟨rfl, K, T, B⟩
theorem sectors_any [Spare] (w : World) (base : Nat) (M : DM) (S : DS) (h : Dsk w base M S) :
    Calls Try.prog 56 #[.pointer (some ⟨M.p, 0, none⟩)] w fun e w' => e = .returned (.int .i64 (S.N : Int)) ∧ w = w' := by
  have hc2 := h.c2
  have hN := h.hN
  go_enter Try.func56, Try.ntmps56
  go_wp2
  go_ret
  exact ⟨rfl, rfl⟩
theorem size_any [Spare] (w : World) (base : Nat) (M : DM) (S : DS) (h : Dsk w base M S) :
    Calls Try.prog 50 #[.pointer (some ⟨M.p, 0, none⟩)] w fun e w' => e = .returned (.int .i64 (S.size : Int)) ∧ w = w' := by
  have hc0 := h.c0
  go_enter Try.func50, Try.ntmps50
  go_wp2
  go_ret
  exact ⟨rfl, rfl⟩
theorem loose_any [Spare] (w : World) (base : Nat) (M : DM) (S : DS) (h : Dsk w base M S) :
    Calls Try.prog 28 #[.pointer (some ⟨M.p, 0, none⟩)] w fun e w' => e = .returned (.int .i64 (S.loose.length : Int)) ∧ w = w' := by
  have hc3 := h.c3
  have hL := h.hL
  obtain ⟨vs, _, l2, _⟩ := h.lo
  obtain ⟨A, c, hv⟩ : ∃ A c, M.vl = .slice A S.loose.length c := by
    rcases l2.2 with ⟨h1, h2⟩ | ⟨g, cap, cur, e1, _⟩
    · exact ⟨none, 0, by rw [h1, h2]⟩
    · exact ⟨_, _, e1⟩
  rw [hv] at hc3
  clear hv l2
  go_enter Try.func28, Try.ntmps28
  go_wp2
  go_ret
  exact ⟨rfl, rfl⟩

theorem SecV.bytes [Spare] {w : World} {base size : Nat} {v : Value} {F : Nat → Nat} (h : SecV w base size v F) (hs : size ≤ 4096) : ∃ A n c, v = .slice A n c ∧ Bytes w A n F ∧ n ≤ size ∧ (∀ i, n ≤ i → i < size → F i = 0) ∧ (A = none → c = 0) := by
  rcases h.2 with ⟨rfl, h0⟩ | ⟨g, c, cs, rfl, h2, h3, h4, h5, h6⟩
  · exact ⟨none, 0, 0, rfl, none_bytes _ _, by omega, fun i _ hi => h0 i hi, fun _ => rfl⟩
  · refine ⟨some ⟨g, 0, none⟩, size, c, rfl, ⟨by omega, h.1, fun _ => ⟨g, 0, rfl, fun i hi => ?_⟩⟩, Nat.le_refl _, fun i h1 h2 => by omega, fun e => by cases e⟩
    rw [Nat.zero_add]
    have := cell_of_row w g i cs _ _ h5
    rw [this]
    exact h6 i hi

/-- A copy of a sector's bytes, also of one that was never written. -/
theorem whole_any [Spare] (v : Value) (F : Nat → Nat) (w : World) (base : Nat) (M : DM) (S : DS) (h : Dsk w base M S) (hv : SecV w base S.size v F) :
    Calls Try.prog 42 #[.pointer (some ⟨M.p, 0, none⟩), v] w fun e w' => e = .returned (.slice (some ⟨w.heap.size, 0, none⟩) S.size S.size) ∧ BRow w' w.heap.size S.size F ∧ Below w.heap.size w w' := by
  obtain ⟨A, n, c, rfl, hb, hn, hz, _⟩ := hv.bytes h.hS.2
  have hc0 := h.c0
  obtain ⟨s, hs⟩ : ∃ s, s = S.size := ⟨_, rfl⟩
  have hS := h.hS
  rw [← hs] at hc0 hn hz hS ⊢
  clear hs hv
  have hmk := run_make_row' (P := Try.prog) 42 5 (.int .u8 0) 1 Try.underlying42 u8info rfl .i64 .i64 s (by omega) (by omega)
  have r0 := BRow.made w s (by omega)
  have l0 := (Below.refl w.heap.size w).alloc (Nat.le_refl _) (.cells (madeCells #[.int .u8 0] s) 5)
  have sb := Lib.hid (hb.below l0 (Nat.le_refl _))
  have R0 := Lib.hid r0
  have L0 := Lib.hid l0
  clear r0 l0
  go_enter Try.func42, Try.ntmps42
  go_wp2_with (with_reducible refine wpList_copy_bytes rfl (.tmp 11) (.tmp 12) 42 42 rfl Try.underlying42 u8size _ _ _ _ _ _ rfl rfl w.heap.size 0 s n _ _ R0.out sb.out ?e1 ?e2 ?e3 ?e4)
  case e1 => exact (Nat.min_eq_left hn).symm
  case e3 => omega
  case e4 =>
    intro W2 r2 g2
    have l2 : Below w.heap.size w W2 := L0.out.grown g2 (by simp) (by rintro j ⟨⟩; exact Nat.le_refl _)
    have r3 : BRow W2 w.heap.size s F := r2.congr fun i hi => by
      by_cases h1 : i < n
      · rw [copyF_in (by omega) (by omega), Nat.sub_zero]
      · rw [copyF_out (by omega), hz i (by omega) hi]; rfl
    clear r2 g2
    go_wp2
    go_ret
    exact ⟨rfl, r3, l2⟩
  all_goals exact fun _ => rfl

/-- What Read tells: a sector's bytes, in memory of its own. -/
theorem readDisk_ok [Spare] (k : Nat) (w : World) (base : Nat) (M : DM) (S : DS) (h : Dsk w base M S) (hk : k < S.N) (hd : S.down = false) :
    Calls Try.prog 18 #[.pointer (some ⟨M.p, 0, none⟩), .int .i64 k] w fun e w' => e = .returned (.tuple #[.slice (some ⟨w.heap.size, 0, none⟩) S.size S.size, .int .i64 0]) ∧ BRow w' w.heap.size S.size (S.now k) ∧ Below w.heap.size w w' := by
  have hN := h.hN
  have R := Lib.hid (show reachI S k = 0 by unfold reachI; rw [if_neg (by rw [hd]; simp), if_neg (by omega)])
  have hc2 := h.c2
  obtain ⟨V, v1, v2⟩ := h.vn
  have hck := v1.cell (i := k) (by have := h.hC; omega)
  have hC := h.hC
  have hsec := Lib.hid (v2 k hk)
  clear hd v1 v2
  go_enter Try.func18, Try.ntmps18
  go_wp2_with fail
  refine (reach_any k w base M S h).mono ?_
  rintro e w' ⟨rfl, rfl⟩
  rw [R.out]
  go_wp2_with fail
  refine (whole_any (V k) _ w base M S h hsec.out).mono ?_
  rintro e w' ⟨rfl, r1, l1⟩
  go_wp2
  go_ret2
  exact ⟨rfl, r1, l1⟩
theorem readDisk_no [Spare] (at_ : Int) (w : World) (base : Nat) (M : DM) (S : DS) (h : Dsk w base M S) (hne : reachI S at_ ≠ 0) :
    Calls Try.prog 18 #[.pointer (some ⟨M.p, 0, none⟩), .int .i64 at_] w fun e w' => e = .returned (.tuple #[.slice none 0 0, .int .i64 (reachI S at_)]) ∧ w = w' := by
  have q : (reachI S at_ != 0) = true := by rw [bne_iff_ne]; exact hne
  clear hne
  go_enter Try.func18, Try.ntmps18
  go_wp2_with fail
  refine (reach_any at_ w base M S h).mono ?_
  rintro e w' ⟨rfl, rfl⟩
  go_wp2
  go_ret2
  exact ⟨rfl, rfl⟩
end Go.Proofs.Ytmeijienfdefjaa
