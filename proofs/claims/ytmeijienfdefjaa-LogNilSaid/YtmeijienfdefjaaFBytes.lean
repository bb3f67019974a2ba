/- The contract of the document's Bytes. -/
import Derived.Test.YtmeijienfdefjaaFAppend
namespace Go.Proofs.Ytmeijienfdefjaa
open Go.RowKit

/-- A number's bytes, the lowest first. -/
def leF (v : Nat) (i : Nat) : Nat := v / 256 ^ i % 256
theorem leF_lt (v i : Nat) : leF v i < 256 := Nat.mod_lt _ (by omega)

set_option maxHeartbeats 1000000 in
theorem refBytes_any (v many : Nat) (w : World) (hv : v ≤ 4611686018427387904) (hm : many ≤ 8) :
    Calls Try.prog 43 #[.int .i64 v, .int .i64 many] w fun e w' =>
      ∃ A c, e = .returned (.slice A many c) ∧ OwnB w' w.heap.size A many c (leF v) ∧ Below w.heap.size w w' := by
  go_enter Try.func43, Try.ntmps43
  go_wp2
  go_loopw [0, 5, 6] (fun t o i wr => ∃ (k : Nat) (A : Option Addr) (c : Nat), k ≤ many ∧ t = .int .i64 (v / 256 ^ k : Nat) ∧ i = .int .i64 k ∧ o = .slice A k c ∧ OwnB wr w.heap.size A k c (leF v) ∧ Below w.heap.size w wr) (fun _ _ i _ => many - (intOf i).toNat)
  case atStart => exact ⟨0, none, 0, Nat.zero_le _, by simp, rfl, rfl, OwnB.none_ w _ _, Below.refl _ _⟩
  case round =>
    obtain ⟨k, A, c, hk, rfl, rfl, rfl, ho, hl⟩ := hrel
    by_cases hlt : k < many
    · have hx : v / 256 ^ k ≤ v := Nat.div_le_self _ _
      have hd : v / 256 ^ k / 256 = v / 256 ^ (k + 1) := by rw [Nat.pow_succ, Nat.div_div_eq_div_mul]
      have hF : ∀ i, i < k + 1 → pushF (leF v) k (((v / 256 ^ k : Nat) : Int) % 256).toNat i = leF v i := fun i hi => by
        unfold pushF leF
        split
        · rfl
        · obtain rfl : i = k := by omega
          omega
      obtain ⟨x, hxx⟩ : ∃ x, x = v / 256 ^ k := ⟨_, rfl⟩
      rw [← hxx] at hx hd hF ⊢
      have HD := Lib.hid hd
      have HF := Lib.hid hF
      have HO := Lib.hid ho
      clear hxx hd hF ho
      have hs := hl.size
      go_wp2_with (at_builtin; with_reducible refine wpList_push wr rfl _ _ 42 rfl Try.underlying42 u8infoAll w.heap.size _ _ _ _ rfl HO.out _ rfl ?d1 ?d2 ?d3 hs ?d4)
      case d1 => omega
      case d2 => omega
      case d3 => omega
      case d4 =>
        intro A1 c1 w1 o1 l1
        have o2 := o1.congr HF.out
        have l2 := hl.trans l1
        clear o1 l1 HO
        go_wp2
        go_roundw
        case rel => exact ⟨k + 1, A1, c1, by omega, by rw [← HD.out]; go_num, by go_num, rfl, o2, l2⟩
        case measure => simp [intOf]; omega
    · obtain rfl : k = many := by omega
      go_wp2
      go_ret
      exact ⟨A, c, rfl, ho, hl⟩
end Go.Proofs.Ytmeijienfdefjaa
