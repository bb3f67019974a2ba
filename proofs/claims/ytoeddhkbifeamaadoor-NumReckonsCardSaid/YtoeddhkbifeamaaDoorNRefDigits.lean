/- The document's digits. -/
import Derived.Test.YtoeddhkbifeamaaDoorNRefPlus
import Derived.Deep.OwnRows
import Derived.Deep.Draws
import Derived.OwnWalk
import Derived.LoopTactic
namespace Go.Proofs.YtoeddhkbifeamaaDoor
open Go.RowKit
set_option linter.unusedVariables false

def dgN (M i : Nat) : Nat := M / 10 ^ i % 10
def dgL (M k : Nat) : List Value := (List.range k).map fun i => .int .i64 (dgN M i)
theorem dgL_next (M k : Nat) : dgL M (k + 1) = dgL M k ++ [.int .i64 (dgN M k)] := by
  unfold dgL
  rw [List.range_succ, List.map_append]
  rfl
theorem div_next (M k : Nat) : M / 10 ^ (k + 1) = M / 10 ^ k / 10 := by rw [Nat.pow_succ, Nat.div_div_eq_div_mul]
theorem lt_19 {M : Nat} (h : M ≤ 9000000000000000000) : M < 10 ^ 19 := by
  have h3 : (10 : Nat) ^ 19 = 10000000000000000000 := by decide
  rw [h3]
  omega
theorem intinfo : (Tryd.prog.info? 3).map (fun i => (i.zero, i.size, i.bytes)) = some (some (.int .i64 0), 1, 8) := by kernel_rfl
def DigPost (M : Nat) (w : World) (e : Ending) (w' : World) : Prop := ∃ v k, e = .returned v ∧ k ≤ 19 ∧ M < 10 ^ k ∧ w'.ownsRow w.heap.size 3 1 v k (dgL M k) ∧ Below w.heap.size w w'
set_option maxHeartbeats 2000000 in
set_option maxRecDepth 100000 in
theorem digits_gen (n : Int) (M : Nat) (w : World) (hM : M ≤ 9000000000000000000) (hor : (n < 0 ∧ n = -(M : Int)) ∨ (¬ n < 0 ∧ n = M)) :
    Calls Tryd.prog 34 #[.int .i64 n] w (DigPost M w) := by
  obtain ⟨i0, hi0, hz0, hz1, hz2⟩ := info_parts intinfo
  have HI := Lib.hid (And.intro hi0 (And.intro hz0 (And.intro hz1 hz2)))
  have HM := Lib.hid hM
  clear hi0 hz0 hz1 hz2
  have H19 : Hid (M < 10 ^ 19) := Lib.hid (lt_19 hM)
  rcases hor with ⟨hn, hnm⟩ | ⟨hn, hnm⟩
  · have hneg : -n = (M : Int) := by omega
    have hlo : -9000000000000000000 ≤ n := by omega
    clear hnm hM
    go_enter Tryd.func34, Tryd.ntmps34
    go_wp2_with fail
    clear hneg hn hlo
    go_loopw [0, 3] (fun x v wr => ∃ k m : Nat, x = .int .i64 m ∧ m = M / 10 ^ k ∧ k ≤ 19 ∧ wr.ownsRow w.heap.size 3 1 v k (dgL M k) ∧ Below w.heap.size w wr) (fun x _ _ => (intOf x).toNat)
    case atStart => exact ⟨0, M, rfl, by simp, by omega, World.ownsRow_nil _ _ _ _, Below.refl _ _⟩
    case round =>
      obtain ⟨k, m, rfl, hm, hk, hown, hbel⟩ := hrel
      have hmM : m ≤ M := by rw [hm]; exact Nat.div_le_self _ _
      have hmb : m ≤ 9000000000000000000 := Nat.le_trans hmM HM.out
      have HME := Lib.hid hm
      have HB := Lib.hid hbel
      have HO := Lib.hid hown
      have hsz := hbel.size
      clear hm hmM hbel hown
      by_cases h0 : 0 < m
      · have hk19 : k < 19 := by
          rcases Nat.lt_or_ge k 19 with h | h
          · exact h
          · have h1 : k = 19 := by omega
            have h2 : M / 10 ^ 19 = 0 := Nat.div_eq_of_lt H19.out
            have h3 := HME.out
            rw [h1, h2] at h3
            omega
        obtain ⟨d, hd⟩ : ∃ d, d = m % 10 := ⟨_, rfl⟩
        have HD := Lib.hid (show dgN M k = d by unfold dgN; rw [← HME.out, hd])
        have e1 : (m : Int) % 10 = (d : Int) := by omega
        have e2 : (m : Int) / 10 = ((m / 10 : Nat) : Int) := by omega
        have e3 : IntKind.i64.wrap ((m : Int).tdiv 10) = ((m / 10 : Nat) : Int) := by rw [Int.tdiv_eq_ediv_of_nonneg (by omega), IntWalk.i64_in _ (by omega), e2]
        have hmI : (m : Int) ≤ 9000000000000000000 := by omega
        have h0I : (0 : Int) < m := by omega
        have HMM := Lib.hid h0
        clear hd e2 hmb h0
        go_wp2_with (at_builtin; refine wpList_append_own _ rfl _ _ 53 rfl w.heap.size 3 i0 (.int .i64 0) 1 8 Tryd.underlying53 HI.out.1 HI.out.2.1 HI.out.2.2.1 HI.out.2.2.2 rfl (by decide) _ _ _ rfl (HO.out.alloc _) ⟨wr.heap.size, 0, none⟩ 1 1 [.int .i64 d] rfl rfl ?c1a ?c2a ?c3a ?c4a ?c5a ?_)
        case c1a =>
          intro j u hj
          match j, hj with
          | 0, hj => simp at hj; subst hj; simp [Addr.add]
        case c2a => intro u hu; simp at hu; subst hu; rfl
        case c3a => unfold maxLen; omega
        case c4a => omega
        case c5a => simp; omega
        · intro v' w1 hown' hgrow _
          have o2 : w1.ownsRow w.heap.size 3 1 v' (k + 1) (dgL M (k + 1)) := by rw [dgL_next, HD.out]; exact hown'
          have hb1 : Below w.heap.size w (wr.alloc (.cells #[.int .i64 d] 3)) := HB.out.alloc hsz _
          have b2 : Below w.heap.size w w1 := hb1.grown hgrow (by simp; omega) (fun j hj => by
            rcases HO.out.2 with ⟨e, _⟩ | ⟨g, cap, cur, e, hg, _⟩
            · rw [e] at hj; cases hj
            · rw [e] at hj; injection hj with hj; rw [← hj]; exact hg)
          have O2 := Lib.hid o2
          have B2 := Lib.hid b2
          clear o2 b2 hb1 hown' hgrow
          go_wp2
          go_roundw
          case rel => exact ⟨k + 1, m / 10, rfl, by rw [HME.out, div_next], by omega, O2.out, B2.out⟩
          case measure => simp [intOf]; have := HMM.out; omega
      · have h0I : ¬ (0 : Int) < m := by omega
        have HF := Lib.hid (show M < 10 ^ k by
          have h1 := HME.out
          have h2 : M / 10 ^ k = 0 := by omega
          exact (Nat.div_eq_zero_iff.1 h2).resolve_left (Nat.pos_iff_ne_zero.1 (Nat.pow_pos (by omega))))
        clear h0 hmb
        go_wp2
        go_ret
        exact ⟨_, k, rfl, hk, HF.out, HO.out, HB.out⟩
  · subst hnm
    have hn2 : decide ((M : Int) < 0) = false := by simp
    clear hn hM
    go_enter Tryd.func34, Tryd.ntmps34
    go_wp2_with fail
    go_loopw [0, 3] (fun x v wr => ∃ k m : Nat, x = .int .i64 m ∧ m = M / 10 ^ k ∧ k ≤ 19 ∧ wr.ownsRow w.heap.size 3 1 v k (dgL M k) ∧ Below w.heap.size w wr) (fun x _ _ => (intOf x).toNat)
    case atStart => exact ⟨0, M, rfl, by simp, by omega, World.ownsRow_nil _ _ _ _, Below.refl _ _⟩
    case round =>
      obtain ⟨k, m, rfl, hm, hk, hown, hbel⟩ := hrel
      have hmM : m ≤ M := by rw [hm]; exact Nat.div_le_self _ _
      have hmb : m ≤ 9000000000000000000 := Nat.le_trans hmM HM.out
      have HME := Lib.hid hm
      have HB := Lib.hid hbel
      have HO := Lib.hid hown
      have hsz := hbel.size
      clear hm hmM hbel hown
      by_cases h0 : 0 < m
      · have hk19 : k < 19 := by
          rcases Nat.lt_or_ge k 19 with h | h
          · exact h
          · have h1 : k = 19 := by omega
            have h2 : M / 10 ^ 19 = 0 := Nat.div_eq_of_lt H19.out
            have h3 := HME.out
            rw [h1, h2] at h3
            omega
        obtain ⟨d, hd⟩ : ∃ d, d = m % 10 := ⟨_, rfl⟩
        have HD := Lib.hid (show dgN M k = d by unfold dgN; rw [← HME.out, hd])
        have e1 : (m : Int) % 10 = (d : Int) := by omega
        have e2 : (m : Int) / 10 = ((m / 10 : Nat) : Int) := by omega
        have e3 : IntKind.i64.wrap ((m : Int).tdiv 10) = ((m / 10 : Nat) : Int) := by rw [Int.tdiv_eq_ediv_of_nonneg (by omega), IntWalk.i64_in _ (by omega), e2]
        have hmI : (m : Int) ≤ 9000000000000000000 := by omega
        have h0I : (0 : Int) < m := by omega
        have HMM := Lib.hid h0
        clear hd e2 hmb h0
        go_wp2_with (at_builtin; refine wpList_append_own _ rfl _ _ 53 rfl w.heap.size 3 i0 (.int .i64 0) 1 8 Tryd.underlying53 HI.out.1 HI.out.2.1 HI.out.2.2.1 HI.out.2.2.2 rfl (by decide) _ _ _ rfl (HO.out.alloc _) ⟨wr.heap.size, 0, none⟩ 1 1 [.int .i64 d] rfl rfl ?c1b ?c2b ?c3b ?c4b ?c5b ?_)
        case c1b =>
          intro j u hj
          match j, hj with
          | 0, hj => simp at hj; subst hj; simp [Addr.add]
        case c2b => intro u hu; simp at hu; subst hu; rfl
        case c3b => unfold maxLen; omega
        case c4b => omega
        case c5b => simp; omega
        · intro v' w1 hown' hgrow _
          have o2 : w1.ownsRow w.heap.size 3 1 v' (k + 1) (dgL M (k + 1)) := by rw [dgL_next, HD.out]; exact hown'
          have hb1 : Below w.heap.size w (wr.alloc (.cells #[.int .i64 d] 3)) := HB.out.alloc hsz _
          have b2 : Below w.heap.size w w1 := hb1.grown hgrow (by simp; omega) (fun j hj => by
            rcases HO.out.2 with ⟨e, _⟩ | ⟨g, cap, cur, e, hg, _⟩
            · rw [e] at hj; cases hj
            · rw [e] at hj; injection hj with hj; rw [← hj]; exact hg)
          have O2 := Lib.hid o2
          have B2 := Lib.hid b2
          clear o2 b2 hb1 hown' hgrow
          go_wp2
          go_roundw
          case rel => exact ⟨k + 1, m / 10, rfl, by rw [HME.out, div_next], by omega, O2.out, B2.out⟩
          case measure => simp [intOf]; have := HMM.out; omega
      · have h0I : ¬ (0 : Int) < m := by omega
        have HF := Lib.hid (show M < 10 ^ k by
          have h1 := HME.out
          have h2 : M / 10 ^ k = 0 := by omega
          exact (Nat.div_eq_zero_iff.1 h2).resolve_left (Nat.pos_iff_ne_zero.1 (Nat.pow_pos (by omega))))
        clear h0 hmb
        go_wp2
        go_ret
        exact ⟨_, k, rfl, hk, HF.out, HO.out, HB.out⟩
end Go.Proofs.YtoeddhkbifeamaaDoor
