/- The walk of FrameReads. -/
import Derived.Test.YtmkpknjhbkbafaaFRefRead
namespace Go.Proofs.Ytmkpknjhbkbafaa
open Go.RowKit

set_option maxHeartbeats 1000000 in
theorem frameReads_walk (A : Option Addr) (n c : Nat) (F : Nat → Nat) (w : World) (hb : Bytes w A n F) (hnil : A = none → c = 0) (hnc : n ≤ c) (hc2 : c ≤ 9223372036854775807) :
    Calls Try.prog 5 #[.slice A n c] w fun e w' => e = .returned (.bool true) ∧ Below w.heap.size w w' := by
  have hn := hb.1
  by_cases hlen : 5000 < n
  · go_enter Try.func5, Try.ntmps5
    go_wp2
    go_ret
    exact ⟨rfl, Below.refl _ _⟩
  · have L1 := (Below.refl w.heap.size w).alloc (Nat.le_refl _) (.cells #[] 5)
    have H1 := Lib.hid (hb.below L1 (Nat.le_refl _))
    have HO := Lib.hid (own_empty w F)
    have HL := Lib.hid L1
    have HN := Lib.hid hnil
    clear L1 hnil
    go_enter Try.func5, Try.ntmps5
    go_wp2_with (at_builtin; with_reducible refine wpList_append_bytes _ rfl (.tmp 13) (.tmp 14) 22 rfl Try.underlying22 u8infoAll w.heap.size _ _ _ _ rfl HO.out _ _ _ _ rfl H1.out HN.out ?d1 ?d2 ?d3)
    case d1 => omega
    case d2 => simp
    case d3 =>
      intro A1 c1 w1 o1 g1 _
      have l1 : Below w.heap.size w w1 := HL.out.grown g1 (by simp) (by rintro k ⟨⟩; exact Nat.le_refl _)
      have o2 : OwnB w1 w.heap.size A1 n c1 F := by
        have := o1.congr (G := F) fun i _ => by unfold catF; rw [if_neg (by omega), Nat.sub_zero]
        simpa only [Nat.zero_add] using this
      have B1 := Lib.hid o2.bytes
      have hc1 := o2.2.2.1
      have hc3 := o2.2.2.2.1
      clear o1 g1 o2 HL HO H1
      go_wp2_with fail
      refine (read_all _ n _ F w1 B1.out hc1 hc3).mono ?_
      rintro e w2 ⟨v, k, B2, d2, er, rfl, r2, b2, l2⟩
      have l3 : Below w.heap.size w w2 := l1.trans (l2.mono l1.size)
      have s2 := Lib.hid (hb.below l3 (Nat.le_refl _))
      have R2 := Lib.hid r2
      have B2' := Lib.hid b2
      clear l1 l2 r2 b2 B1
      go_wp2_with fail
      refine (refRead_all _ n _ F w2 s2.out hnc hc2).mono ?_
      rintro e w3 ⟨v', k', B3, d3, er', rfl, r3, b3, l4⟩
      obtain ⟨rfl, rfl, rfl⟩ := R2.out.same r3
      have l5 : Below w.heap.size w w3 := l3.trans (l4.mono l3.size)
      have k2 := conv_any d2 (B2'.out.below l4 (Nat.le_refl _))
      have k3 := conv_any d3 b3
      have q0 : ((v : Int) == (v : Int)) = true := by simp
      have q1 : ((strF (fun i => F (16 + i)) k).toList == (strF (fun i => F (16 + i)) k).toList) = true := by simp
      have q2 : (er == er) = true := by simp
      clear l3 l4 r3 b3
      go_wp2_with fail
      refine (awake_any w3).mono ?_
      rintro e w4 ⟨rfl, l6⟩
      have l7 : Below w.heap.size w w4 := l5.trans (l6.mono l5.size)
      clear l6 l5 k2 k3
      go_wp2
      go_ret
      exact ⟨rfl, l7⟩
end Go.Proofs.Ytmkpknjhbkbafaa
