/- The contract of the document's Build. -/
import Derived.Test.YtmeijienfdefjaaFSec
import Derived.Test.YtmeijienfdefjaaFApart
namespace Go.Proofs.Ytmeijienfdefjaa
open Go.RowKit

theorem refBuild_size (size mark : Int) (A : Option Addr) (n c : Nat) (w : World) (h : size < 64 ∨ 4096 < size) :
    Calls Try.prog 44 #[.int .i64 size, .int .i64 mark, .slice A n c] w fun e w' => e = .returned (.tuple #[.slice none 0 0, .int .i64 3]) ∧ w = w' := by
  by_cases hs : size < 64
  all_goals
    have hq : size < 64 ∨ 4096 < size := h
    clear h
    go_enter Try.func44, Try.ntmps44
    go_wp2
    go_ret2
    exact ⟨rfl, rfl⟩
theorem refBuild_mark (size mark : Int) (A : Option Addr) (n c : Nat) (w : World) (h1 : 64 ≤ size) (h2 : size ≤ 4096) (h : mark < 1 ∨ 4611686018427387904 < mark) :
    Calls Try.prog 44 #[.int .i64 size, .int .i64 mark, .slice A n c] w fun e w' => e = .returned (.tuple #[.slice none 0 0, .int .i64 2]) ∧ w = w' := by
  by_cases hm : mark < 1
  all_goals
    have hq : mark < 1 ∨ 4611686018427387904 < mark := h
    clear h
    go_enter Try.func44, Try.ntmps44
    go_wp2
    go_ret2
    exact ⟨rfl, rfl⟩
theorem refBuild_long (size mark : Int) (A : Option Addr) (n c : Nat) (w : World) (h1 : 64 ≤ size) (h2 : size ≤ 4096) (h3 : 1 ≤ mark) (h4 : mark ≤ 4611686018427387904) (hn : size - 36 < n) :
    Calls Try.prog 44 #[.int .i64 size, .int .i64 mark, .slice A n c] w fun e w' => e = .returned (.tuple #[.slice none 0 0, .int .i64 9]) ∧ w = w' := by
  go_enter Try.func44, Try.ntmps44
  go_wp2
  go_ret2
  exact ⟨rfl, rfl⟩

def lenOf : Value → Nat
  | .slice _ n _ => n
  | _ => 0

set_option maxHeartbeats 2000000 in
theorem refBuild_ok (size m mark n c : Nat) (A : Option Addr) (F : Nat → Nat) (w : World) (h1 : m + 20 ≤ size) (h2 : size ≤ m + 20) (h44 : 44 ≤ m) (hm : m ≤ 4076) (hk1 : 1 ≤ mark) (hk2 : mark ≤ 4611686018427387904) (hn : 16 + n ≤ m) (hb : Bytes w A n F) (hnil : A = none → c = 0) :
    Calls Try.prog 44 #[.int .i64 size, .int .i64 mark, .slice A n c] w fun e w' =>
      ∃ B d, e = .returned (.tuple #[.slice B size d, .int .i64 0]) ∧ OwnB w' w.heap.size B size d (secF m mark n F) ∧ Below w.heap.size w w' := by
  go_enter Try.func44, Try.ntmps44
  go_wp2_with fail
  refine (refBytes_any mark 8 w hk2 (by omega)).mono ?_
  rintro e W1 ⟨B1, d1, rfl, o1, l1⟩
  have o1' : OwnB W1 w.heap.size B1 8 d1 (headF mark) := o1.congr fun i hi => by unfold headF; rw [if_pos hi]
  clear o1
  go_wp2_with fail
  go_loopw [8, 9] (fun t i wr => ∃ (k : Nat) (B : Option Addr) (d : Nat), k ≤ 8 ∧ i = .int .i64 k ∧ t = .slice B (8 + k) d ∧ OwnB wr w.heap.size B (8 + k) d (headF mark) ∧ Below w.heap.size w wr) (fun _ i _ => 8 - (intOf i).toNat)
  case atStart => exact ⟨0, B1, d1, by omega, rfl, rfl, o1', l1⟩
  case round =>
    obtain ⟨k, B, d, hk, rfl, rfl, ho, hl⟩ := hrel
    by_cases hlt : k < 8
    · obtain ⟨g, rfl, hg, hc⟩ := ho.cell (i := k) (by omega)
      have hx := ho.2.1 k (by omega)
      have hF : ∀ i, i < 8 + k + 1 → pushF (headF mark) (8 + k) (255 - headF mark k) i = headF mark i := fun i hi => by
        unfold pushF
        split
        · rfl
        · obtain rfl : i = 8 + k := by omega
          have e2 : headF mark (8 + k) = 255 - headF mark k := by unfold headF; rw [if_neg (by omega), if_pos hlt, Nat.add_sub_cancel_left]
          exact e2.symm
      have HF := Lib.hid hF
      have HO := Lib.hid ho
      clear hF ho
      have hs := hl.size
      go_wp2_with (at_builtin; with_reducible refine wpList_push wr rfl _ _ 42 rfl Try.underlying42 u8infoAll w.heap.size _ _ _ _ rfl HO.out _ rfl ?d1 ?d2 ?d3 hs ?d4)
      case d1 => omega
      case d2 => omega
      case d3 => omega
      case d4 =>
        intro A1 c1 w1 o1 lq
        have o2 := o1.congr HF.out
        have l2 := hl.trans lq
        clear o1 lq HO
        go_wp2
        go_roundw
        case rel => exact ⟨k + 1, A1, c1, by omega, by go_num, rfl, o2, l2⟩
        case measure => simp [intOf]; omega
    · obtain rfl : k = 8 := by omega
      have hb2 := hb.below hl (Nat.le_refl _)
      have HB := Lib.hid hb2
      have HN := Lib.hid hnil
      have HO := Lib.hid ho
      have hs := hl.size
      clear hb2 hnil ho o1' l1
      go_wp2_with (at_builtin; with_reducible refine wpList_append_bytes wr rfl _ _ 42 rfl Try.underlying42 u8infoAll w.heap.size _ _ _ _ rfl HO.out _ _ _ _ rfl HB.out HN.out ?x1 hs ?x2)
      case x1 => omega
      case x2 =>
        intro B2 d2 W2 o2 g2 _
        have l2 : Below w.heap.size w W2 := hl.grown g2 hs fun j hj => (HO.out.base_le hj).1
        have o2' : OwnB W2 w.heap.size B2 (16 + n) d2 (padF mark n F) := o2.congr fun i hi => by unfold padF; rw [if_pos hi]
        clear o2 g2 HO HB HN
        go_wp2
        go_loopw [8] (fun t wr => ∃ (L : Nat) (B : Option Addr) (d : Nat), 16 + n ≤ L ∧ L ≤ m ∧ t = .slice B L d ∧ OwnB wr w.heap.size B L d (padF mark n F) ∧ Below w.heap.size w wr) (fun t _ => m - lenOf t)
        case atStart => exact ⟨16 + n, B2, d2, by omega, hn, rfl, o2', l2⟩
        case round =>
          clear hl hs o2' l2
          obtain ⟨L, B3, d3, hL1, hL2, rfl, ho3, hl3⟩ := hrel
          have hs3 := hl3.size
          by_cases hlt3 : L < m
          · have hF : ∀ i, i < L + 1 → pushF (padF mark n F) L 0 i = padF mark n F i := fun i hi => by
              unfold pushF
              split
              · rfl
              · obtain rfl : i = L := by omega
                unfold padF
                rw [if_neg (by omega)]
            have HF := Lib.hid hF
            have HO := Lib.hid ho3
            clear hF ho3
            go_wp2_with (at_builtin; with_reducible refine wpList_push _ rfl _ _ 42 rfl Try.underlying42 u8infoAll w.heap.size _ _ _ _ rfl HO.out _ rfl ?y1 ?y2 ?y3 hs3 ?y4)
            case y1 => omega
            case y2 => omega
            case y3 => omega
            case y4 =>
              intro A1 c1 w1 o1 lq
              have o4 := o1.congr HF.out
              have l4 := hl3.trans lq
              clear o1 lq HO
              go_wp2
              go_roundw
              case rel => exact ⟨L + 1, A1, c1, by omega, by omega, rfl, o4, l4⟩
              case measure => simp only [lenOf]; omega
          · obtain rfl : L = m := by omega
            have ob := ho3.bytes
            go_wp2_with fail
            refine (refCheck_any _ L _ (padF mark n F) _ ob).mono ?_
            rintro e W3 ⟨rfl, rfl⟩
            have hcl := crc_lt (padF mark n F) L
            go_wp2_with fail
            refine (refBytes_any (crc (padF mark n F) L) 4 _ (by omega) (by omega)).mono ?_
            rintro e W4 ⟨B4, d4, rfl, o4, l4⟩
            have o5 := ho3.below l4
            have l5 : Below w.heap.size w W4 := hl3.trans (l4.mono hs3)
            have hs5 := l5.size
            have HO := Lib.hid o5
            have HB := Lib.hid o4.bytes
            have HN := Lib.hid o4.2.2.2.2
            clear ho3 hl3 ob o4 l4 o5 hs3
            go_wp2_with (at_builtin; with_reducible refine wpList_append_bytes _ rfl (.tmp 55) (.tmp 57) 42 rfl Try.underlying42 u8infoAll w.heap.size _ _ _ _ rfl HO.out _ _ _ _ rfl HB.out HN.out ?z1 hs5 ?z2)
            case z1 => omega
            case z2 =>
              intro B6 d6 W6 o6 g6 _
              have l6 : Below w.heap.size w W6 := l5.grown g6 hs5 fun j hj => (HO.out.base_le hj).1
              have o6' : OwnB W6 w.heap.size B6 (L + 4) d6 (sumF L mark n F) := o6
              have hs6 := l6.size
              have hd6 := o6'.2.2.1
              have hd7 := o6'.2.2.2.1
              have HO6 := Lib.hid o6'
              have HB6 := Lib.hid (o6'.bytes.head 16 (by omega))
              have HN6 := Lib.hid o6'.2.2.2.2
              clear o6 g6 HO HB HN l5 hs5 o6'
              go_wp2_with (at_builtin; with_reducible refine wpList_append_bytes _ rfl (.tmp 59) (.tmp 61) 42 rfl Try.underlying42 u8infoAll w.heap.size _ _ _ _ rfl HO6.out _ _ _ _ rfl HB6.out HN6.out ?v1 hs6 ?v2)
              case v1 => omega
              case v2 =>
                intro B8 d8 W8 o8 g8 _
                have l8 : Below w.heap.size w W8 := l6.grown g8 hs6 fun j hj => (HO6.out.base_le hj).1
                have o9 : OwnB W8 w.heap.size B8 (L + 4 + 16) d8 (secF L mark n F) := o8.congr fun i hi => ref_sec (by omega) (by omega) (by omega)
                clear o8 g8 HO6 HB6 HN6 l6 hs6
                go_wp2
                go_ret2
                have e : L + 4 + 16 = size := by omega
                subst e
                exact ⟨B8, d8, rfl, o9, l8⟩
end Go.Proofs.Ytmeijienfdefjaa
