/- The walk of FrameChecks; bytes that came in. -/
import Derived.Test.YtmkpknjhbkbafaaFApart
import Derived.Test.YtmkpknjhbkbafaaFAppend
import Derived.Test.YtmkpknjhbkbafaaFAwake
import Derived.OpenShut
namespace Go.Proofs.Ytmkpknjhbkbafaa
open Go.RowKit

/-- Bytes that came in as an argument. -/
theorem bytes_of_row {w : World} {a : Option Addr} {len cap : Nat} {zs : List Int}
    (h : (a = none ∧ len = 0 ∧ cap = 0 ∧ zs = []) ∨
      ∃ x, a = some x ∧ len ≤ cap ∧ cap ≤ maxLen ∧ zs.length = cap ∧ (∀ i, i < zs.length → w.cell? (x.add i) = some (.int .u8 (zs.getD i 0))) ∧ ∀ n ∈ zs, (Lit.int .u8 n).wf = true) :
    ∃ F, Bytes w a len F ∧ (a = none → cap = 0) ∧ len ≤ cap ∧ cap ≤ 9223372036854775807 := by
  rcases h with ⟨rfl, rfl, rfl, rfl⟩ | ⟨x, rfl, hl, hm, hz, hc, hw⟩
  · exact ⟨fun _ => 0, ⟨by omega, fun i hi => absurd hi (by omega), fun hn => absurd hn (by omega)⟩, fun _ => rfl, by omega, by omega⟩
  · unfold maxLen at hm
    refine ⟨fun i => (zs.getD i 0).toNat, ⟨by omega, fun i hi => ?_, fun hn => ?_⟩, (fun e => by cases e), hl, hm⟩
    · have hb := range_u8 hw i
      show (zs.getD i 0).toNat < 256
      rw [List.getD_eq_getElem?_getD]
      omega
    · obtain ⟨b, off, spot⟩ := x
      have h0 := hc 0 (by omega)
      have hspot : spot = none := by simpa [Addr.add] using World.cell?_spot h0
      subst hspot
      refine ⟨b, off, rfl, fun i hi => ?_⟩
      have h1 := hc i (by omega)
      have hb := range_u8 hw i
      have e : ((zs.getD i 0).toNat : Int) = zs.getD i 0 := by rw [List.getD_eq_getElem?_getD]; omega
      rw [e, ← h1]
      unfold Addr.add
      split
      · rename_i q; subst q; rfl
      · rfl

theorem own_empty (w : World) (F : Nat → Nat) : OwnB (w.alloc (.cells #[] 5)) w.heap.size (some ⟨w.heap.size, 0, none⟩) 0 0 F :=
  ⟨World.ownsRow_lit w #[] 0 (Nat.le_refl _) (by unfold maxLen; omega) rfl, fun i hi => absurd hi (by omega), by omega, by omega, fun e => by cases e⟩

set_option maxHeartbeats 1000000 in
theorem frameChecks_walk (A : Option Addr) (n c : Nat) (F : Nat → Nat) (w : World) (hb : Bytes w A n F) (hnil : A = none → c = 0) :
    Calls Try.prog 3 #[.slice A n c] w fun e w' => e = .returned (.bool true) ∧ Below w.heap.size w w' := by
  have hn := hb.1
  by_cases hlen : 2000 < n
  · go_enter Try.func3, Try.ntmps3
    go_wp2
    go_ret
    exact ⟨rfl, Below.refl _ _⟩
  · have L1 := (Below.refl w.heap.size w).alloc (Nat.le_refl _) (.cells #[] 5)
    have hb1 := hb.below L1 (Nat.le_refl _)
    have ho := own_empty w F
    have H1 := Lib.hid hb1
    have HO := Lib.hid ho
    have HL := Lib.hid L1
    have HN := Lib.hid hnil
    clear hb1 ho L1 hnil
    go_enter Try.func3, Try.ntmps3
    go_wp2_with (with_reducible refine wpList_append_bytes _ rfl _ _ 22 rfl Try.underlying22 u8infoAll w.heap.size _ _ _ _ rfl HO.out _ _ _ _ rfl H1.out HN.out ?d1 ?d2 ?d3)
    case d1 => omega
    case d2 => simp
    case d3 =>
      intro A1 c1 w1 o1 g1 e1
      have l1 : Below w.heap.size w w1 := HL.out.grown g1 (by simp) (by rintro k ⟨⟩; exact Nat.le_refl _)
      have b1 := o1.bytes.congr (G := F) fun i _ => by unfold catF; rw [if_neg (by omega), Nat.sub_zero]
      have s1 := hb.below l1 (Nat.le_refl _)
      have B1 := Lib.hid b1
      have S1 := Lib.hid s1
      have Z1 := Lib.hid l1
      clear o1 g1 e1 b1 s1 l1
      go_wp2_with fail
      refine (check_any _ n _ F w1 B1.out).mono ?_
      rintro e w' ⟨rfl, rfl⟩
      have hc := crc_lt F n
      go_wp2_with fail
      refine (refCheck_any _ n _ F w1 S1.out).mono ?_
      rintro e w' ⟨rfl, rfl⟩
      have hq : ((crc F n : Int) == (crc F n : Int)) = true := by simp
      go_wp2_with fail
      refine (awake_any w1).mono ?_
      rintro e w2 ⟨rfl, l2⟩
      have l3 : Below w.heap.size w w2 := Z1.out.trans (l2.mono Z1.out.size)
      clear l2
      go_wp2
      go_ret
      exact ⟨rfl, l3⟩
end Go.Proofs.Ytmkpknjhbkbafaa
