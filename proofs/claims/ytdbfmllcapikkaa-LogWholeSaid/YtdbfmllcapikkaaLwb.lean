/- Merged texts: FOk, FApart, FRefBuild, FAwake, FLawChecks, FStr, FRead, FReadNo, LPlain, LLittle, LSlot, LChange, DNil, DInv. -/
import Derived.Test.YtdbfmllcapikkaaLwa
import Derived.Lib.SlBytesConst
import Derived.OpenShut
import Derived.Laws.BytesArg
import Derived.Deep.DeepCutAuto
import Derived.Deep.CutRange
import Derived.Deep.QuietTactic
import Derived.BigQuiet
/- When bytes are a sector: the program's conditions, and the document's. -/
namespace Go.Proofs.Ytdbfmllcapikkaa

theorem leTo_leF (v : Nat) : ∀ n, leTo (leF v) n = v % 256 ^ n
  | 0 => by simp [leTo, Nat.mod_one]
  | n + 1 => by
    rw [leTo, leTo_leF v n, leF, Nat.pow_succ, Nat.mod_mul, Nat.mul_comm]
theorem leTo_digit {F : Nat → Nat} : ∀ {n i : Nat}, (∀ i, i < n → F i < 256) → i < n → leF (leTo F n) i = F i
  | 0, _, _, h => absurd h (by omega)
  | n + 1, i, hF, hi => by
    have h1 := leTo_lt (F := F) (n := n) fun i hi => hF i (by omega)
    unfold leF
    rw [leTo]
    rcases Nat.lt_or_ge i n with h | h
    · have ih := leTo_digit (F := F) (n := n) (i := i) (fun i hi => hF i (by omega)) h
      unfold leF at ih
      have e : F n * 256 ^ n = 256 ^ i * (256 * (F n * 256 ^ (n - i - 1))) := by
        have e2 : (256 : Nat) ^ n = 256 ^ i * (256 * 256 ^ (n - i - 1)) := by
          rw [← Nat.pow_succ', ← Nat.pow_add]
          congr 1
          omega
        rw [e2]
        simp only [Nat.mul_left_comm]
      rw [e, Nat.add_mul_div_left _ _ (Nat.pow_pos (by omega)), Nat.add_mul_mod_self_left]
      exact ih
    · obtain rfl : i = n := by omega
      have hp : 0 < (256 : Nat) ^ i := Nat.pow_pos (by omega)
      rw [Nat.add_mul_div_right _ _ hp, Nat.div_eq_of_lt h1, Nat.zero_add]
      exact Nat.mod_eq_of_lt (hF i (by omega))
theorem leTo_eq {F : Nat → Nat} {n v : Nat} (hv : v < 256 ^ n) (h : ∀ i, i < n → F i = leF v i) : leTo F n = v := by
  rw [leTo_congr h, leTo_leF, Nat.mod_eq_of_lt hv]

/-- What the program asks of a sector's bytes (m: where the check stands). -/
def okP (F : Nat → Nat) (m : Nat) : Prop :=
  (1 ≤ leTo F 8 ∧ leTo F 8 ≤ 4611686018427387904) ∧ pairB F (leTo F 8) = true ∧ pairB (fun i => F (m + 4 + i)) (leTo F 8) = true ∧ leTo (fun i => F (m + i)) 4 = crc F m
/-- What the document asks: it is the sector of its own mark and load. -/
def secP (F : Nat → Nat) (m : Nat) : Prop :=
  (1 ≤ leTo F 8 ∧ leTo F 8 ≤ 4611686018427387904) ∧ ∀ i, i < m + 20 → secF m (leTo F 8) (m - 16) (fun j => F (16 + j)) i = F i

theorem pair_head {G : Nat → Nat} {v : Nat} (hv : v < 18446744073709551616) (hG : ∀ i, i < 16 → G i < 256) : pairB G v = true ↔ ∀ i, i < 16 → headF v i = G i := by
  have e8 : (256 : Nat) ^ 8 = 18446744073709551616 := by decide
  constructor
  · intro h i hi
    obtain ⟨h1, h2⟩ := of_decide_eq_true h
    unfold headF
    by_cases h8 : i < 8
    · rw [if_pos h8, ← h1]
      exact leTo_digit (n := 8) (fun i hi => hG i (by omega)) h8
    · rw [if_neg h8]
      have h3 := leTo_digit (F := fun i => G (8 + i)) (n := 8) (i := i - 8) (fun i hi => hG _ (by omega)) (by omega)
      rw [h2] at h3
      have e : 8 + (i - 8) = i := by omega
      simp only [e] at h3
      rw [← h3]
      unfold leF
      rw [not_byte hv (by omega)]
  · intro h
    refine decide_eq_true ⟨leTo_eq (by rw [e8]; exact hv) fun i hi => ?_, leTo_eq (by rw [e8]; omega) fun i hi => ?_⟩
    · rw [← h i (by omega)]
      unfold headF
      rw [if_pos hi]
    · show G (8 + i) = _
      rw [← h (8 + i) (by omega)]
      unfold headF leF
      rw [if_neg (by omega), not_byte hv hi, Nat.add_sub_cancel_left]

theorem secF_head {m v n : Nat} {G : Nat → Nat} (hv : v < 18446744073709551616) (hm : 16 ≤ m) {i : Nat} (hi : i < 16) : secF m v n G i = headF v i := by
  unfold secF
  rw [pairF_at hv, if_neg (by omega)]
  unfold putF
  rw [if_neg (by omega)]
  unfold bodyF copyF
  rw [if_neg (by omega), pairF_at hv, if_pos (by omega), Nat.sub_zero]
theorem secF_load {m v n : Nat} {G : Nat → Nat} (hv : v < 18446744073709551616) {i : Nat} (h1 : 16 ≤ i) (h2 : i < 16 + n) (h3 : i < m) : secF m v n G i = G (i - 16) := by
  unfold secF
  rw [pairF_at hv, if_neg (by omega)]
  unfold putF
  rw [if_neg (by omega)]
  unfold bodyF copyF
  rw [if_pos (by omega)]
theorem secF_zero {m v n : Nat} {G : Nat → Nat} (hv : v < 18446744073709551616) {i : Nat} (h1 : 16 + n ≤ i) (h3 : i < m) : secF m v n G i = 0 := by
  unfold secF
  rw [pairF_at hv, if_neg (by omega)]
  unfold putF
  rw [if_neg (by omega)]
  unfold bodyF copyF
  rw [if_neg (by omega), pairF_at hv, if_neg (by omega)]
  rfl
theorem secF_body {m v n : Nat} {G : Nat → Nat} (hv : v < 18446744073709551616) {i : Nat} (h3 : i < m) : secF m v n G i = bodyF v n G i := by
  unfold secF
  rw [pairF_at hv, if_neg (by omega)]
  unfold putF
  rw [if_neg (by omega)]
theorem secF_sum {m v n : Nat} {G : Nat → Nat} (hv : v < 18446744073709551616) {i : Nat} (h : i < 4) : secF m v n G (m + i) = leF (crc (bodyF v n G) m) i := by
  unfold secF
  rw [pairF_at hv, if_neg (by omega)]
  unfold putF leF
  rw [if_pos (by omega), Nat.add_sub_cancel_left]
theorem secF_tail {m v n : Nat} {G : Nat → Nat} (hv : v < 18446744073709551616) {i : Nat} (h : i < 16) : secF m v n G (m + 4 + i) = headF v i := by
  unfold secF
  rw [pairF_at hv, if_pos (by omega), Nat.add_sub_cancel_left]

theorem ok_iff {F : Nat → Nat} {m : Nat} (hm : 44 ≤ m) (hF : ∀ i, i < m + 20 → F i < 256) : okP F m ↔ secP F m := by
  unfold okP secP
  refine and_congr_right fun ⟨_, hv2⟩ => ?_
  generalize hvv : leTo F 8 = v at *
  have hv : v < 18446744073709551616 := by omega
  have e4 : (256 : Nat) ^ 4 = 4294967296 := by decide
  rw [pair_head hv fun i hi => hF i (by omega), pair_head hv fun i hi => hF _ (by omega)]
  constructor
  · rintro ⟨p1, p2, p3⟩ i hi
    have hbody : ∀ j, j < m → bodyF v (m - 16) (fun j => F (16 + j)) j = F j := fun j hj => by
      rw [← secF_body hv hj]
      by_cases h16 : j < 16
      · rw [secF_head hv (by omega) h16]
        exact p1 j h16
      · rw [secF_load hv (by omega) (by omega) hj]
        show F (16 + (j - 16)) = F j
        congr 1
        omega
    by_cases h1 : i < m
    · rw [secF_body hv h1]
      exact hbody i h1
    · by_cases h2 : i < m + 4
      · obtain ⟨k, rfl⟩ : ∃ k, i = m + k := ⟨i - m, by omega⟩
        rw [secF_sum hv (by omega), crc_congr hbody, ← p3]
        exact leTo_digit (F := fun i => F (m + i)) (n := 4) (fun i hi => hF _ (by omega)) (by omega)
      · obtain ⟨k, rfl⟩ : ∃ k, i = m + 4 + k := ⟨i - (m + 4), by omega⟩
        rw [secF_tail hv (by omega)]
        exact p2 k (by omega)
  · intro h
    refine ⟨fun i hi => ?_, fun i hi => ?_, leTo_eq (by rw [e4]; exact crc_lt _ _) fun i hi => ?_⟩
    · rw [← h i (by omega), secF_head hv (by omega) hi]
    · rw [← h (m + 4 + i) (by omega), secF_tail hv hi]
    · show F (m + i) = _
      rw [← h (m + i) (by omega), secF_sum hv hi, crc_congr fun j hj => ?_]
      rw [← secF_body hv hj]
      exact h j (by omega)
end Go.Proofs.Ytdbfmllcapikkaa
/- The contracts of apart, and of the document's check. -/
namespace Go.Proofs.Ytdbfmllcapikkaa
open Go.RowKit

set_option maxHeartbeats 400000 in
theorem apart_any (A B : Nat) (w : World) (hA : A < 4294967296) (hB : B < 4294967296) :
    Calls Try.prog 73 #[.int .i64 A, .int .i64 B] w fun e w' => e = .returned (.int .i64 (A ^^^ B : Nat)) ∧ w = w' := by
  go_enter Try.func73, Try.ntmps73
  go_wp2
  go_loop [0, 1, 5, 6] (fun x y o t => ∃ a b out bit : Nat, Ap A B a b out bit ∧ x = .int .i64 a ∧ y = .int .i64 b ∧ o = .int .i64 out ∧ t = .int .i64 bit) (fun x y _ _ => (intOf x).toNat + (intOf y).toNat)
  case atStart => exact ⟨A, B, 0, 1, Ap.start A B, rfl, rfl, rfl, rfl⟩
  case round =>
    obtain ⟨a, b, out, bit, hap, rfl, rfl, rfl, rfl⟩ := hrel
    have la : a ≤ A := Nat.le_trans (Nat.le_mul_of_pos_left a hap.2.2.2) hap.2.1
    have lb : b ≤ B := Nat.le_trans (Nat.le_mul_of_pos_left b hap.2.2.2) hap.2.2.1
    by_cases hab : 0 < a ∨ 0 < b
    · obtain ⟨hb1, hb2⟩ := hap.bound hA hB hab
      have hst := hap.step
      have s1 : a % 2 ≠ b % 2 → Ap A B (a / 2) (b / 2) (out + bit) (bit * 2) := fun h => by rw [if_neg h] at hst; exact hst
      have s2 : a % 2 = b % 2 → Ap A B (a / 2) (b / 2) out (bit * 2) := fun h => by rw [if_pos h] at hst; exact hst
      have S1 := Lib.hid s1
      have S2 := Lib.hid s2
      clear hst s1 s2
      by_cases ha : 0 < a
      all_goals
        go_wp2
        · have h : ((a : Int) % 2 != (b : Int) % 2) = true := by assumption
          have hne : a % 2 ≠ b % 2 := by simp at h; omega
          go_round
          case rel => exact ⟨a / 2, b / 2, out + bit, bit * 2, S1.out hne, by go_num, by go_num, by go_num, by go_num⟩
          case measure => simp only [intOf]; omega
        · have h : ((a : Int) % 2 != (b : Int) % 2) = false := by assumption
          have hne : a % 2 = b % 2 := by simp at h; omega
          go_round
          case rel => exact ⟨a / 2, b / 2, out, bit * 2, S2.out hne, by go_num, by go_num, rfl, by go_num⟩
          case measure => simp only [intOf]; omega
    · have ha : a = 0 := by omega
      have hb : b = 0 := by omega
      subst ha hb
      have hd := hap.done
      go_wp2
      go_ret
      exact ⟨rfl, rfl⟩

set_option maxHeartbeats 400000 in
theorem refCheck_any (A : Option Addr) (n c : Nat) (F : Nat → Nat) (w : World) (h : Bytes w A n F) :
    Calls Try.prog 63 #[.slice A n c] w fun e w' => e = .returned (.int .i64 (crc F n)) ∧ w = w' := by
  obtain ⟨hn, hF, hA⟩ := h
  go_enter Try.func63, Try.ntmps63
  go_wp2
  go_loop [3, 4, 5, 6] (fun t i _ _ => ∃ k : Nat, k ≤ n ∧ i = .int .i64 k ∧ t = .int .i64 (crcTo F k)) (fun _ i _ _ => n - (intOf i).toNat)
  case atStart => exact ⟨0, Nat.zero_le _, rfl, rfl⟩
  case round =>
    obtain ⟨k, hk, rfl, rfl⟩ := hrel
    by_cases hlt : k < n
    · obtain ⟨b, o, rfl, hc⟩ := hA (by omega)
      have hck := hc k hlt
      have hFk := hF k hlt
      have hx := crcTo_lt (F := F) (n := k) fun i hi => hF i (by omega)
      go_wp2_with fail
      refine (apart_any _ _ _ hx (by omega)).mono ?_
      rintro e w' ⟨rfl, rfl⟩
      have hy := xor_lt32 hx (b := F k) (by omega)
      obtain ⟨y, hyy⟩ : ∃ y, y = crcTo F k ^^^ F k := ⟨_, rfl⟩
      rw [← hyy] at hy ⊢
      have HY := Lib.hid hyy
      clear hyy
      go_wp2
      go_loop [3, 5, 6] (fun t i _ => ∃ j : Nat, j ≤ 8 ∧ i = .int .i64 j ∧ t = .int .i64 (stpN j y)) (fun _ i _ => 8 - (intOf i).toNat)
      case atStart => exact ⟨0, Nat.zero_le _, rfl, rfl⟩
      case round =>
        obtain ⟨j, hj, rfl, rfl⟩ := hrel
        have hz := stpN_lt hy j
        by_cases hlj : j < 8
        · obtain ⟨z, hzz⟩ : ∃ z, z = stpN j y := ⟨_, rfl⟩
          rw [← hzz] at hz ⊢
          have HZ := Lib.hid hzz
          clear hzz
          by_cases hodd : z % 2 = 1
          · have hq : ((z : Int) % 2 == 1) = true := by simp; omega
            have HO := Lib.hid hodd
            clear hodd
            go_wp2_with fail
            rw [show ((z : Int) / 2) = ((z / 2 : Nat) : Int) from by omega]
            refine (apart_any (z / 2) 3988292384 _ (by omega) (by omega)).mono ?_
            rintro e w' ⟨rfl, rfl⟩
            go_wp2
            go_round
            case rel => exact ⟨j + 1, by omega, by go_num, by rw [stpN, ← HZ.out, stp, if_pos HO.out]⟩
            case measure => simp [intOf]; omega
          · have hq : ((z : Int) % 2 == 1) = false := by simp; omega
            have HO := Lib.hid hodd
            clear hodd
            go_wp2
            go_round
            case rel => exact ⟨j + 1, by omega, by go_num, by rw [stpN, ← HZ.out, stp, if_neg HO.out]; go_num⟩
            case measure => simp [intOf]; omega
        · go_wp2
          obtain rfl : j = 8 := by omega
          go_round
          case rel => exact ⟨k + 1, by omega, by go_num, by rw [HY.out]; rfl⟩
          case measure => simp [intOf]; omega
    · have hx := crcTo_lt (F := F) (n := k) fun i hi => hF i (by omega)
      go_wp2
      obtain rfl : k = n := by omega
      go_ret
      exact ⟨by unfold crc; go_num, rfl⟩
end Go.Proofs.Ytdbfmllcapikkaa
/- The contract of the document's Build. -/
namespace Go.Proofs.Ytdbfmllcapikkaa
open Go.RowKit

theorem refBuild_size (size mark : Int) (A : Option Addr) (n c : Nat) (w : World) (h : size < 64 ∨ 4096 < size) :
    Calls Try.prog 44 #[.int .i64 size, .int .i64 mark, .slice A n c] w fun e w' => e = .returned (.tuple #[.slice none 0 0, .int .i64 3]) ∧ w = w' := by
  by_cases hs : size < 64
  all_goals
    have hq : size < 64 ∨ 4096 < size := h
    clear h
    go_enter Try.func44, Try.ntmps44
    go_wp2
    go_ret2
    exact ⟨rfl, rfl⟩
theorem refBuild_mark (size mark : Int) (A : Option Addr) (n c : Nat) (w : World) (h1 : 64 ≤ size) (h2 : size ≤ 4096) (h : mark < 1 ∨ 4611686018427387904 < mark) :
    Calls Try.prog 44 #[.int .i64 size, .int .i64 mark, .slice A n c] w fun e w' => e = .returned (.tuple #[.slice none 0 0, .int .i64 2]) ∧ w = w' := by
  by_cases hm : mark < 1
  all_goals
    have hq : mark < 1 ∨ 4611686018427387904 < mark := h
    clear h
    go_enter Try.func44, Try.ntmps44
    go_wp2
    go_ret2
    exact ⟨rfl, rfl⟩
theorem refBuild_long (size mark : Int) (A : Option Addr) (n c : Nat) (w : World) (h1 : 64 ≤ size) (h2 : size ≤ 4096) (h3 : 1 ≤ mark) (h4 : mark ≤ 4611686018427387904) (hn : size - 36 < n) :
    Calls Try.prog 44 #[.int .i64 size, .int .i64 mark, .slice A n c] w fun e w' => e = .returned (.tuple #[.slice none 0 0, .int .i64 9]) ∧ w = w' := by
  go_enter Try.func44, Try.ntmps44
  go_wp2
  go_ret2
  exact ⟨rfl, rfl⟩

def lenOf : Value → Nat
  | .slice _ n _ => n
  | _ => 0

set_option maxHeartbeats 2000000 in
theorem refBuild_ok (size m mark n c : Nat) (A : Option Addr) (F : Nat → Nat) (w : World) (h1 : m + 20 ≤ size) (h2 : size ≤ m + 20) (h44 : 44 ≤ m) (hm : m ≤ 4076) (hk1 : 1 ≤ mark) (hk2 : mark ≤ 4611686018427387904) (hn : 16 + n ≤ m) (hb : Bytes w A n F) (hnil : A = none → c = 0) :
    Calls Try.prog 44 #[.int .i64 size, .int .i64 mark, .slice A n c] w fun e w' =>
      ∃ B d, e = .returned (.tuple #[.slice B size d, .int .i64 0]) ∧ OwnB w' w.heap.size B size d (secF m mark n F) ∧ Below w.heap.size w w' := by
  go_enter Try.func44, Try.ntmps44
  go_wp2_with fail
  refine (refBytes_any mark 8 w hk2 (by omega)).mono ?_
  rintro e W1 ⟨B1, d1, rfl, o1, l1⟩
  have o1' : OwnB W1 w.heap.size B1 8 d1 (headF mark) := o1.congr fun i hi => by unfold headF; rw [if_pos hi]
  clear o1
  go_wp2_with fail
  go_loopw [8, 9] (fun t i wr => ∃ (k : Nat) (B : Option Addr) (d : Nat), k ≤ 8 ∧ i = .int .i64 k ∧ t = .slice B (8 + k) d ∧ OwnB wr w.heap.size B (8 + k) d (headF mark) ∧ Below w.heap.size w wr) (fun _ i _ => 8 - (intOf i).toNat)
  case atStart => exact ⟨0, B1, d1, by omega, rfl, rfl, o1', l1⟩
  case round =>
    obtain ⟨k, B, d, hk, rfl, rfl, ho, hl⟩ := hrel
    by_cases hlt : k < 8
    · obtain ⟨g, rfl, hg, hc⟩ := ho.cell (i := k) (by omega)
      have hx := ho.2.1 k (by omega)
      have hF : ∀ i, i < 8 + k + 1 → pushF (headF mark) (8 + k) (255 - headF mark k) i = headF mark i := fun i hi => by
        unfold pushF
        split
        · rfl
        · obtain rfl : i = 8 + k := by omega
          have e2 : headF mark (8 + k) = 255 - headF mark k := by unfold headF; rw [if_neg (by omega), if_pos hlt, Nat.add_sub_cancel_left]
          exact e2.symm
      have HF := Lib.hid hF
      have HO := Lib.hid ho
      clear hF ho
      have hs := hl.size
      go_wp2_with (at_builtin; with_reducible refine wpList_push wr rfl _ _ 42 rfl Try.underlying42 u8infoAll w.heap.size _ _ _ _ rfl HO.out _ rfl ?d1 ?d2 ?d3 hs ?d4)
      case d1 => omega
      case d2 => omega
      case d3 => omega
      case d4 =>
        intro A1 c1 w1 o1 lq
        have o2 := o1.congr HF.out
        have l2 := hl.trans lq
        clear o1 lq HO
        go_wp2
        go_roundw
        case rel => exact ⟨k + 1, A1, c1, by omega, by go_num, rfl, o2, l2⟩
        case measure => simp [intOf]; omega
    · obtain rfl : k = 8 := by omega
      have hb2 := hb.below hl (Nat.le_refl _)
      have HB := Lib.hid hb2
      have HN := Lib.hid hnil
      have HO := Lib.hid ho
      have hs := hl.size
      clear hb2 hnil ho o1' l1
      go_wp2_with (at_builtin; with_reducible refine wpList_append_bytes wr rfl _ _ 42 rfl Try.underlying42 u8infoAll w.heap.size _ _ _ _ rfl HO.out _ _ _ _ rfl HB.out HN.out ?x1 hs ?x2)
      case x1 => omega
      case x2 =>
        intro B2 d2 W2 o2 g2 _
        have l2 : Below w.heap.size w W2 := hl.grown g2 hs fun j hj => (HO.out.base_le hj).1
        have o2' : OwnB W2 w.heap.size B2 (16 + n) d2 (padF mark n F) := o2.congr fun i hi => by unfold padF; rw [if_pos hi]
        clear o2 g2 HO HB HN
        go_wp2
        go_loopw [8] (fun t wr => ∃ (L : Nat) (B : Option Addr) (d : Nat), 16 + n ≤ L ∧ L ≤ m ∧ t = .slice B L d ∧ OwnB wr w.heap.size B L d (padF mark n F) ∧ Below w.heap.size w wr) (fun t _ => m - lenOf t)
        case atStart => exact ⟨16 + n, B2, d2, by omega, hn, rfl, o2', l2⟩
        case round =>
          clear hl hs o2' l2
          obtain ⟨L, B3, d3, hL1, hL2, rfl, ho3, hl3⟩ := hrel
          have hs3 := hl3.size
          by_cases hlt3 : L < m
          · have hF : ∀ i, i < L + 1 → pushF (padF mark n F) L 0 i = padF mark n F i := fun i hi => by
              unfold pushF
              split
              · rfl
              · obtain rfl : i = L := by omega
                unfold padF
                rw [if_neg (by omega)]
            have HF := Lib.hid hF
            have HO := Lib.hid ho3
            clear hF ho3
            go_wp2_with (at_builtin; with_reducible refine wpList_push _ rfl _ _ 42 rfl Try.underlying42 u8infoAll w.heap.size _ _ _ _ rfl HO.out _ rfl ?y1 ?y2 ?y3 hs3 ?y4)
            case y1 => omega
            case y2 => omega
            case y3 => omega
            case y4 =>
              intro A1 c1 w1 o1 lq
              have o4 := o1.congr HF.out
              have l4 := hl3.trans lq
              clear o1 lq HO
              go_wp2
              go_roundw
              case rel => exact ⟨L + 1, A1, c1, by omega, by omega, rfl, o4, l4⟩
              case measure => simp only [lenOf]; omega
          · obtain rfl : L = m := by omega
            have ob := ho3.bytes
            go_wp2_with fail
            refine (refCheck_any _ L _ (padF mark n F) _ ob).mono ?_
            rintro e W3 ⟨rfl, rfl⟩
            have hcl := crc_lt (padF mark n F) L
            go_wp2_with fail
            refine (refBytes_any (crc (padF mark n F) L) 4 _ (by omega) (by omega)).mono ?_
            rintro e W4 ⟨B4, d4, rfl, o4, l4⟩
            have o5 := ho3.below l4
            have l5 : Below w.heap.size w W4 := hl3.trans (l4.mono hs3)
            have hs5 := l5.size
            have HO := Lib.hid o5
            have HB := Lib.hid o4.bytes
            have HN := Lib.hid o4.2.2.2.2
            clear ho3 hl3 ob o4 l4 o5 hs3
            go_wp2_with (at_builtin; with_reducible refine wpList_append_bytes _ rfl (.tmp 55) (.tmp 57) 42 rfl Try.underlying42 u8infoAll w.heap.size _ _ _ _ rfl HO.out _ _ _ _ rfl HB.out HN.out ?z1 hs5 ?z2)
            case z1 => omega
            case z2 =>
              intro B6 d6 W6 o6 g6 _
              have l6 : Below w.heap.size w W6 := l5.grown g6 hs5 fun j hj => (HO.out.base_le hj).1
              have o6' : OwnB W6 w.heap.size B6 (L + 4) d6 (sumF L mark n F) := o6
              have hs6 := l6.size
              have hd6 := o6'.2.2.1
              have hd7 := o6'.2.2.2.1
              have HO6 := Lib.hid o6'
              have HB6 := Lib.hid (o6'.bytes.head 16 (by omega))
              have HN6 := Lib.hid o6'.2.2.2.2
              clear o6 g6 HO HB HN l5 hs5 o6'
              go_wp2_with (at_builtin; with_reducible refine wpList_append_bytes _ rfl (.tmp 59) (.tmp 61) 42 rfl Try.underlying42 u8infoAll w.heap.size _ _ _ _ rfl HO6.out _ _ _ _ rfl HB6.out HN6.out ?v1 hs6 ?v2)
              case v1 => omega
              case v2 =>
                intro B8 d8 W8 o8 g8 _
                have l8 : Below w.heap.size w W8 := l6.grown g8 hs6 fun j hj => (HO6.out.base_le hj).1
                have o9 : OwnB W8 w.heap.size B8 (L + 4 + 16) d8 (secF L mark n F) := o8.congr fun i hi => ref_sec (by omega) (by omega) (by omega)
                clear o8 g8 HO6 HB6 HN6 l6 hs6
                go_wp2
                go_ret2
                have e : L + 4 + 16 = size := by omega
                subst e
                exact ⟨B8, d8, rfl, o9, l8⟩
end Go.Proofs.Ytdbfmllcapikkaa
/- The contract of awake: what the chapter's examples say. -/
namespace Go.Proofs.Ytdbfmllcapikkaa
open Go.RowKit

def hiF (i : Nat) : Nat := [104, 105].getD i 0
def figF (i : Nat) : Nat := [49, 50, 51, 52, 53, 54, 55, 56, 57].getD i 0
theorem fig_crc : crc figF 9 = 3421780262 := by decide +kernel
theorem sec_0 : secF 44 5 2 hiF 0 = 5 := by decide +kernel
theorem sec_8 : secF 44 5 2 hiF 8 = 250 := by decide +kernel
theorem sec_16 : secF 44 5 2 hiF 16 = 104 := by decide +kernel
theorem sec_48 : secF 44 5 2 hiF 48 = 5 := by decide +kernel
theorem sec_56 : secF 44 5 2 hiF 56 = 250 := by decide +kernel

theorem marked_bytes (w : World) (C : Array Value) (F : Nat → Nat) (fr : Nat × Nat) (n : Nat) (hn : n ≤ 4096) (h : ∀ i, i < n → C[i]? = some (.int .u8 (F i)) ∧ F i < 256) :
    Bytes (w.alloc (.cells C 5 fr)) (some ⟨w.heap.size, 0, none⟩) n F := by
  refine ⟨by omega, fun i hi => (h i hi).2, fun _ => ⟨_, _, rfl, fun i hi => ?_⟩⟩
  have e : (w.alloc (.cells C 5 fr)).heap[w.heap.size]? = some (.cells C 5 fr) := heap_alloc_new w _
  rw [Nat.zero_add]
  simp only [World.cell?, e, (h i hi).1]
  rfl
theorem hi_bytes (w : World) (fr : Nat × Nat) : Bytes (w.alloc (.cells #[.int .u8 104, .int .u8 105] 5 fr)) (some ⟨w.heap.size, 0, none⟩) 2 hiF := by
  refine marked_bytes w _ hiF fr 2 (by omega) fun i hi => ?_
  match i, hi with
  | 0, _ => exact ⟨rfl, by decide⟩
  | 1, _ => exact ⟨rfl, by decide⟩
theorem fig_bytes (w : World) (fr : Nat × Nat) : Bytes (w.alloc (.cells #[.int .u8 49, .int .u8 50, .int .u8 51, .int .u8 52, .int .u8 53, .int .u8 54, .int .u8 55, .int .u8 56, .int .u8 57] 5 fr)) (some ⟨w.heap.size, 0, none⟩) 9 figF := by
  refine marked_bytes w _ figF fr 9 (by omega) fun i hi => ?_
  match i, hi with
  | 0, _ => exact ⟨rfl, by decide⟩
  | 1, _ => exact ⟨rfl, by decide⟩
  | 2, _ => exact ⟨rfl, by decide⟩
  | 3, _ => exact ⟨rfl, by decide⟩
  | 4, _ => exact ⟨rfl, by decide⟩
  | 5, _ => exact ⟨rfl, by decide⟩
  | 6, _ => exact ⟨rfl, by decide⟩
  | 7, _ => exact ⟨rfl, by decide⟩
  | 8, _ => exact ⟨rfl, by decide⟩

end Go.Proofs.Ytdbfmllcapikkaa
/- The walk of FrameChecks; bytes that came in. -/
namespace Go.Proofs.Ytdbfmllcapikkaa
open Go.RowKit

end Go.Proofs.Ytdbfmllcapikkaa
/- Bytes as a string; Build and the document's Build in one form, whatever the arguments. -/
namespace Go.Proofs.Ytdbfmllcapikkaa
open Go.RowKit

/-- Build's error number, the length of what it makes, its bytes. -/
def bErr (size mark : Int) (n : Nat) : Int := if size < 64 ∨ 4096 < size then 3 else if mark < 1 ∨ 4611686018427387904 < mark then 2 else if size - 36 < n then 9 else 0
def bLen (size mark : Int) (n : Nat) : Nat := if bErr size mark n = 0 then size.toNat else 0
def bF (size mark : Int) (n : Nat) (F : Nat → Nat) : Nat → Nat := secF (size.toNat - 20) mark.toNat n F
theorem bErr_1 {size mark : Int} {n : Nat} (h : size < 64 ∨ 4096 < size) : bErr size mark n = 3 := if_pos h
theorem bErr_2 {size mark : Int} {n : Nat} (h : ¬ (size < 64 ∨ 4096 < size)) (h2 : mark < 1 ∨ 4611686018427387904 < mark) : bErr size mark n = 2 := by unfold bErr; rw [if_neg h, if_pos h2]
theorem bErr_3 {size mark : Int} {n : Nat} (h : ¬ (size < 64 ∨ 4096 < size)) (h2 : ¬ (mark < 1 ∨ 4611686018427387904 < mark)) (h3 : size - 36 < n) : bErr size mark n = 9 := by unfold bErr; rw [if_neg h, if_neg h2, if_pos h3]
theorem bErr_0 {size mark : Int} {n : Nat} (h : ¬ (size < 64 ∨ 4096 < size)) (h2 : ¬ (mark < 1 ∨ 4611686018427387904 < mark)) (h3 : ¬ size - 36 < n) : bErr size mark n = 0 := by unfold bErr; rw [if_neg h, if_neg h2, if_neg h3]

theorem build_all (size mark : Int) (n c : Nat) (A : Option Addr) (F : Nat → Nat) (w : World) (hb : Bytes w A n F) :
    Calls Try.prog 61 #[.int .i64 size, .int .i64 mark, .slice A n c] w fun e w' =>
      ∃ B d, e = .returned (.tuple #[.slice B (bLen size mark n) d, .int .i64 (bErr size mark n)]) ∧ Bytes w' B (bLen size mark n) (bF size mark n F) ∧ Below w.heap.size w w' := by
  unfold bLen
  by_cases h1 : size < 64 ∨ 4096 < size
  · rw [bErr_1 h1]
    exact (build_size size mark A n c w h1).mono fun e w' ⟨he, hw⟩ => ⟨none, 0, he, none_bytes _ _, hw ▸ Below.refl _ _⟩
  · by_cases h2 : mark < 1 ∨ 4611686018427387904 < mark
    · rw [bErr_2 h1 h2]
      exact (build_mark size mark A n c w (by omega) (by omega) h2).mono fun e w' ⟨he, hw⟩ => ⟨none, 0, he, none_bytes _ _, hw ▸ Below.refl _ _⟩
    · by_cases h3 : size - 36 < n
      · rw [bErr_3 h1 h2 h3]
        exact (build_long size mark A n c w (by omega) (by omega) (by omega) (by omega) h3 hb.1).mono fun e w' ⟨he, hw⟩ => ⟨none, 0, he, none_bytes _ _, hw ▸ Below.refl _ _⟩
      · rw [bErr_0 h1 h2 h3, if_pos rfl]
        obtain ⟨s, rfl⟩ := Int.eq_ofNat_of_zero_le (show 0 ≤ size by omega)
        obtain ⟨k, rfl⟩ := Int.eq_ofNat_of_zero_le (show 0 ≤ mark by omega)
        refine (build_ok s (s - 20) k n c A F w (by omega) (by omega) (by omega) (by omega) (by omega) (by omega) (by omega) hb).mono fun e w' ⟨he, hr, hl⟩ => ?_
        exact ⟨_, _, he, ((hr.bytes (o := 0) (m := s) (by omega)).congr fun i _ => by rw [Nat.zero_add]; rfl), hl⟩

theorem refBuild_all (size mark : Int) (n c : Nat) (A : Option Addr) (F : Nat → Nat) (w : World) (hb : Bytes w A n F) (hnil : A = none → c = 0) :
    Calls Try.prog 44 #[.int .i64 size, .int .i64 mark, .slice A n c] w fun e w' =>
      ∃ B d, e = .returned (.tuple #[.slice B (bLen size mark n) d, .int .i64 (bErr size mark n)]) ∧ Bytes w' B (bLen size mark n) (bF size mark n F) ∧ Below w.heap.size w w' := by
  unfold bLen
  by_cases h1 : size < 64 ∨ 4096 < size
  · rw [bErr_1 h1]
    exact (refBuild_size size mark A n c w h1).mono fun e w' ⟨he, hw⟩ => ⟨none, 0, he, none_bytes _ _, hw ▸ Below.refl _ _⟩
  · by_cases h2 : mark < 1 ∨ 4611686018427387904 < mark
    · rw [bErr_2 h1 h2]
      exact (refBuild_mark size mark A n c w (by omega) (by omega) h2).mono fun e w' ⟨he, hw⟩ => ⟨none, 0, he, none_bytes _ _, hw ▸ Below.refl _ _⟩
    · by_cases h3 : size - 36 < n
      · rw [bErr_3 h1 h2 h3]
        exact (refBuild_long size mark A n c w (by omega) (by omega) (by omega) (by omega) h3).mono fun e w' ⟨he, hw⟩ => ⟨none, 0, he, none_bytes _ _, hw ▸ Below.refl _ _⟩
      · rw [bErr_0 h1 h2 h3, if_pos rfl]
        obtain ⟨s, rfl⟩ := Int.eq_ofNat_of_zero_le (show 0 ≤ size by omega)
        obtain ⟨k, rfl⟩ := Int.eq_ofNat_of_zero_le (show 0 ≤ mark by omega)
        refine (refBuild_ok s (s - 20) k n c A F w (by omega) (by omega) (by omega) (by omega) (by omega) (by omega) (by omega) hb hnil).mono fun e w' ⟨B, d, he, hr, hl⟩ => ?_
        exact ⟨B, d, he, hr.bytes, hl⟩

end Go.Proofs.Ytdbfmllcapikkaa
/- The contracts of Clone and of Read. -/
namespace Go.Proofs.Ytdbfmllcapikkaa
open Go.RowKit

theorem read_size (A : Option Addr) (n c : Nat) (w : World) (h : n < 64 ∨ 4096 < n) (hn : n ≤ 9223372036854775807) :
    Calls Try.prog 64 #[.slice A n c] w fun e w' => e = .returned (.tuple #[.int .i64 0, .slice none 0 0, .int .i64 3]) ∧ w = w' := by
  have hT : fitsB (n : Int) = false := fitsB_f (by omega)
  have HT := Lib.hid hT
  clear h hT
  go_enter Try.func64, Try.ntmps64
  go_wp2_with fail
  refine (fits_any _ _).mono ?_
  rintro e w' ⟨rfl, rfl⟩
  rw [HT.out]
  go_wp2
  go_ret3
  exact ⟨rfl, rfl⟩

set_option maxHeartbeats 1000000 in
theorem read_yes2 (b o n m c : Nat) (F : Nat → Nat) (w : World) (h1 : m + 20 ≤ n) (h2 : n ≤ m + 20) (h44 : 44 ≤ m) (hm : m ≤ 4076) (hc : n ≤ c) (hc2 : c ≤ 9223372036854775807) (hb : Bytes w (some ⟨b, o, none⟩) n F) (hok : okP F m) :
    Calls Try.prog 64 #[.slice (some ⟨b, o, none⟩) n c] w fun e w' =>
      ∃ B d, e = .returned (.tuple #[.int .i64 (leTo F 8), .slice B (m - 16) d, .int .i64 0]) ∧ Bytes w' B (m - 16) (fun i => F (16 + i)) ∧ m - 16 ≤ d ∧ (B = none → d = 0) ∧ Below w.heap.size w w' ∧ d ≤ 9223372036854775807 ∧ (∀ b' o', B = some ⟨b', o', none⟩ → w.heap.size ≤ b') := by
  obtain ⟨⟨k1, k2⟩, p1, p2, p3⟩ := hok
  have hT : fitsB (n : Int) = true := fitsB_t (by omega) (by omega)
  have HT := Lib.hid hT
  have P1 := Lib.hid p1
  have P2 := Lib.hid p2
  have P3 := Lib.hid p3
  have hlt := crc_lt F m
  clear hT p1 p2 p3
  go_enter Try.func64, Try.ntmps64
  go_wp2_with fail
  refine (fits_any _ _).mono ?_
  rintro e w' ⟨rfl, rfl⟩
  rw [HT.out]
  go_wp2_with fail
  refine (parts_at _ _ _ m _ _ h1 h2 hc hc2).mono ?_
  rintro e w' ⟨rfl, q, rfl⟩
  have hb1 : Bytes (w.drewN q) (some ⟨b, o, none⟩) n F := hb
  have l1 := below_drewN (Below.refl w.heap.size w) q
  generalize World.drewN w q = W1 at *
  have hbm := hb1.head m (by omega)
  have hv1 : (1 : Int) ≤ (leTo F 8 : Int) := by omega
  have hv2 : (leTo F 8 : Int) ≤ 4611686018427387904 := by omega
  go_wp2_with fail
  refine (take64_any _ 8 _ F _ (hb1.head 8 (by omega)) (by omega)).mono ?_
  rintro e w' ⟨rfl, rfl⟩
  obtain ⟨v, hvv⟩ : ∃ v, v = leTo F 8 := ⟨_, rfl⟩
  rw [← hvv] at hv1 hv2 P1 P2 k1 k2 ⊢
  have HV := Lib.hid hvv
  clear hvv
  go_wp2_with fail
  refine (isPair_any b o m m v F W1 hbm (by omega) (by omega) (by omega)).mono ?_
  rintro e w' ⟨rfl, rfl⟩
  rw [P1.out]
  go_wp2_with fail
  refine (isPair_any b (o + (m + 4)) 16 _ v _ W1 (hb1.cut (m + 4) 16 (by omega)) (by omega) (by omega) (by omega)).mono ?_
  rintro e w' ⟨rfl, rfl⟩
  rw [P2.out]
  go_wp2_with fail
  refine (take32_any _ 4 _ _ _ (hb1.cut m 4 (by omega)) (by omega)).mono ?_
  rintro e w' ⟨rfl, rfl⟩
  rw [P3.out]
  go_wp2_with fail
  refine (check_any _ m _ F W1 hbm).mono ?_
  rintro e w' ⟨rfl, rfl⟩
  have q3 : ((crc F m : Int) != (crc F m : Int)) = false := by simp
  go_wp2_with fail
  refine (clone_any b (o + 16) (m - 16) _ _ W1 (hbm.cut 16 (m - 16) (by omega)) (by omega)).mono ?_
  rintro e W2 ⟨B, d, rfl, o2, l2⟩
  have l3 : Below w.heap.size w W2 := l1.trans (l2.mono l1.size)
  have b2 := o2.bytes
  have d2 := o2.2.2.1
  have d3 := o2.2.2.2.2
  have d4 := o2.2.2.2.1
  have d5 : ∀ b' o', B = some ⟨b', o', none⟩ → w.heap.size ≤ b' := fun b' o' e => Nat.le_trans l1.size (o2.base_le (by rw [e]; rfl)).1
  have hw64 : IntKind.i64.wrap (v : Int) = (v : Int) := by rw [IntKind.wrap_i64]; omega
  clear o2 l2 hb1 hbm l1
  go_wp2
  go_ret3
  exact ⟨B, d, by rw [← HV.out]; rfl, b2, d2, d3, l3, d4, d5⟩
theorem read_yes (b o n m c : Nat) (F : Nat → Nat) (w : World) (h1 : m + 20 ≤ n) (h2 : n ≤ m + 20) (h44 : 44 ≤ m) (hm : m ≤ 4076) (hc : n ≤ c) (hc2 : c ≤ 9223372036854775807) (hb : Bytes w (some ⟨b, o, none⟩) n F) (hok : okP F m) :
    Calls Try.prog 64 #[.slice (some ⟨b, o, none⟩) n c] w fun e w' =>
      ∃ B d, e = .returned (.tuple #[.int .i64 (leTo F 8), .slice B (m - 16) d, .int .i64 0]) ∧ Bytes w' B (m - 16) (fun i => F (16 + i)) ∧ m - 16 ≤ d ∧ (B = none → d = 0) ∧ Below w.heap.size w w' :=
  (read_yes2 b o n m c F w h1 h2 h44 hm hc hc2 hb hok).mono fun _ _ ⟨B, d, e1, e2, e3, e4, e5, _⟩ => ⟨B, d, e1, e2, e3, e4, e5⟩
end Go.Proofs.Ytdbfmllcapikkaa
/- Read of what is no sector. -/
namespace Go.Proofs.Ytdbfmllcapikkaa
open Go.RowKit

set_option maxHeartbeats 1000000 in
theorem read_no_low (b o n m c : Nat) (F : Nat → Nat) (w : World) (h1 : m + 20 ≤ n) (h2 : n ≤ m + 20) (h44 : 44 ≤ m) (hm : m ≤ 4076) (hc : n ≤ c) (hc2 : c ≤ 9223372036854775807) (hb : Bytes w (some ⟨b, o, none⟩) n F) (k1 : leTo F 8 < 1) :
    Calls Try.prog 64 #[.slice (some ⟨b, o, none⟩) n c] w fun e w' => e = .returned (.tuple #[.int .i64 0, .slice none 0 0, .int .i64 5]) ∧ Below w.heap.size w w' := by
  have hT : fitsB (n : Int) = true := fitsB_t (by omega) (by omega)
  have HT := Lib.hid hT
  clear hT
  go_enter Try.func64, Try.ntmps64
  go_wp2_with fail
  refine (fits_any _ _).mono ?_
  rintro e w' ⟨rfl, rfl⟩
  rw [HT.out]
  go_wp2_with fail
  refine (parts_at _ _ _ m _ _ h1 h2 hc hc2).mono ?_
  rintro e w' ⟨rfl, q, rfl⟩
  have hb1 : Bytes (w.drewN q) (some ⟨b, o, none⟩) n F := hb
  have l1 := below_drewN (Below.refl w.heap.size w) q
  generalize World.drewN w q = W1 at *
  have hbm := hb1.head m (by omega)
  have hv1 : (leTo F 8 : Int) < 1 := by omega
  go_wp2_with fail
  refine (take64_any _ 8 _ F _ (hb1.head 8 (by omega)) (by omega)).mono ?_
  rintro e w' ⟨rfl, rfl⟩
  obtain ⟨v, hvv⟩ : ∃ v, v = leTo F 8 := ⟨_, rfl⟩
  rw [← hvv] at hv1 ⊢
  clear hvv k1
  go_wp2
  go_ret3
  exact ⟨rfl, l1⟩

set_option maxHeartbeats 1000000 in
theorem read_no_high (b o n m c : Nat) (F : Nat → Nat) (w : World) (h1 : m + 20 ≤ n) (h2 : n ≤ m + 20) (h44 : 44 ≤ m) (hm : m ≤ 4076) (hc : n ≤ c) (hc2 : c ≤ 9223372036854775807) (hb : Bytes w (some ⟨b, o, none⟩) n F) (k1 : 4611686018427387904 < leTo F 8) :
    Calls Try.prog 64 #[.slice (some ⟨b, o, none⟩) n c] w fun e w' => e = .returned (.tuple #[.int .i64 0, .slice none 0 0, .int .i64 5]) ∧ Below w.heap.size w w' := by
  have hT : fitsB (n : Int) = true := fitsB_t (by omega) (by omega)
  have HT := Lib.hid hT
  clear hT
  go_enter Try.func64, Try.ntmps64
  go_wp2_with fail
  refine (fits_any _ _).mono ?_
  rintro e w' ⟨rfl, rfl⟩
  rw [HT.out]
  go_wp2_with fail
  refine (parts_at _ _ _ m _ _ h1 h2 hc hc2).mono ?_
  rintro e w' ⟨rfl, q, rfl⟩
  have hb1 : Bytes (w.drewN q) (some ⟨b, o, none⟩) n F := hb
  have l1 := below_drewN (Below.refl w.heap.size w) q
  generalize World.drewN w q = W1 at *
  have hbm := hb1.head m (by omega)
  have hv1 : (1 : Int) ≤ (leTo F 8 : Int) := by omega
  have hv2 : (4611686018427387904 : Int) < (leTo F 8 : Int) := by omega
  go_wp2_with fail
  refine (take64_any _ 8 _ F _ (hb1.head 8 (by omega)) (by omega)).mono ?_
  rintro e w' ⟨rfl, rfl⟩
  obtain ⟨v, hvv⟩ : ∃ v, v = leTo F 8 := ⟨_, rfl⟩
  rw [← hvv] at hv1 hv2 ⊢
  clear hvv k1
  go_wp2
  go_ret3
  exact ⟨rfl, l1⟩

set_option maxHeartbeats 1000000 in
theorem read_no_first (b o n m c : Nat) (F : Nat → Nat) (w : World) (h1 : m + 20 ≤ n) (h2 : n ≤ m + 20) (h44 : 44 ≤ m) (hm : m ≤ 4076) (hc : n ≤ c) (hc2 : c ≤ 9223372036854775807) (hb : Bytes w (some ⟨b, o, none⟩) n F) (k1 : 1 ≤ leTo F 8) (k2 : leTo F 8 ≤ 4611686018427387904) (p1 : pairB F (leTo F 8) = false) :
    Calls Try.prog 64 #[.slice (some ⟨b, o, none⟩) n c] w fun e w' => e = .returned (.tuple #[.int .i64 0, .slice none 0 0, .int .i64 5]) ∧ Below w.heap.size w w' := by
  have hT : fitsB (n : Int) = true := fitsB_t (by omega) (by omega)
  have HT := Lib.hid hT
  have P1 := Lib.hid p1
  clear p1
  clear hT
  go_enter Try.func64, Try.ntmps64
  go_wp2_with fail
  refine (fits_any _ _).mono ?_
  rintro e w' ⟨rfl, rfl⟩
  rw [HT.out]
  go_wp2_with fail
  refine (parts_at _ _ _ m _ _ h1 h2 hc hc2).mono ?_
  rintro e w' ⟨rfl, q, rfl⟩
  have hb1 : Bytes (w.drewN q) (some ⟨b, o, none⟩) n F := hb
  have l1 := below_drewN (Below.refl w.heap.size w) q
  generalize World.drewN w q = W1 at *
  have hbm := hb1.head m (by omega)
  have hv1 : (1 : Int) ≤ (leTo F 8 : Int) := by omega
  have hv2 : (leTo F 8 : Int) ≤ 4611686018427387904 := by omega
  go_wp2_with fail
  refine (take64_any _ 8 _ F _ (hb1.head 8 (by omega)) (by omega)).mono ?_
  rintro e w' ⟨rfl, rfl⟩
  obtain ⟨v, hvv⟩ : ∃ v, v = leTo F 8 := ⟨_, rfl⟩
  rw [← hvv] at hv1 hv2 k1 k2 P1 ⊢
  clear hvv
  go_wp2_with fail
  refine (isPair_any b o m m v F W1 hbm (by omega) (by omega) (by omega)).mono ?_
  rintro e w' ⟨rfl, rfl⟩
  rw [P1.out]
  go_wp2
  go_ret3
  exact ⟨rfl, l1⟩

set_option maxHeartbeats 1000000 in
theorem read_no_last (b o n m c : Nat) (F : Nat → Nat) (w : World) (h1 : m + 20 ≤ n) (h2 : n ≤ m + 20) (h44 : 44 ≤ m) (hm : m ≤ 4076) (hc : n ≤ c) (hc2 : c ≤ 9223372036854775807) (hb : Bytes w (some ⟨b, o, none⟩) n F) (k1 : 1 ≤ leTo F 8) (k2 : leTo F 8 ≤ 4611686018427387904) (p1 : pairB F (leTo F 8) = true) (p2 : pairB (fun i => F (m + 4 + i)) (leTo F 8) = false) :
    Calls Try.prog 64 #[.slice (some ⟨b, o, none⟩) n c] w fun e w' => e = .returned (.tuple #[.int .i64 0, .slice none 0 0, .int .i64 5]) ∧ Below w.heap.size w w' := by
  have hT : fitsB (n : Int) = true := fitsB_t (by omega) (by omega)
  have HT := Lib.hid hT
  have P1 := Lib.hid p1
  have P2 := Lib.hid p2
  clear p1 p2
  clear hT
  go_enter Try.func64, Try.ntmps64
  go_wp2_with fail
  refine (fits_any _ _).mono ?_
  rintro e w' ⟨rfl, rfl⟩
  rw [HT.out]
  go_wp2_with fail
  refine (parts_at _ _ _ m _ _ h1 h2 hc hc2).mono ?_
  rintro e w' ⟨rfl, q, rfl⟩
  have hb1 : Bytes (w.drewN q) (some ⟨b, o, none⟩) n F := hb
  have l1 := below_drewN (Below.refl w.heap.size w) q
  generalize World.drewN w q = W1 at *
  have hbm := hb1.head m (by omega)
  have hv1 : (1 : Int) ≤ (leTo F 8 : Int) := by omega
  have hv2 : (leTo F 8 : Int) ≤ 4611686018427387904 := by omega
  go_wp2_with fail
  refine (take64_any _ 8 _ F _ (hb1.head 8 (by omega)) (by omega)).mono ?_
  rintro e w' ⟨rfl, rfl⟩
  obtain ⟨v, hvv⟩ : ∃ v, v = leTo F 8 := ⟨_, rfl⟩
  rw [← hvv] at hv1 hv2 k1 k2 P1 P2 ⊢
  clear hvv
  go_wp2_with fail
  refine (isPair_any b o m m v F W1 hbm (by omega) (by omega) (by omega)).mono ?_
  rintro e w' ⟨rfl, rfl⟩
  rw [P1.out]
  go_wp2_with fail
  refine (isPair_any b (o + (m + 4)) 16 _ v _ W1 (hb1.cut (m + 4) 16 (by omega)) (by omega) (by omega) (by omega)).mono ?_
  rintro e w' ⟨rfl, rfl⟩
  rw [P2.out]
  go_wp2
  go_ret3
  exact ⟨rfl, l1⟩

set_option maxHeartbeats 1000000 in
theorem read_no_sum (b o n m c : Nat) (F : Nat → Nat) (w : World) (h1 : m + 20 ≤ n) (h2 : n ≤ m + 20) (h44 : 44 ≤ m) (hm : m ≤ 4076) (hc : n ≤ c) (hc2 : c ≤ 9223372036854775807) (hb : Bytes w (some ⟨b, o, none⟩) n F) (k1 : 1 ≤ leTo F 8) (k2 : leTo F 8 ≤ 4611686018427387904) (p1 : pairB F (leTo F 8) = true) (p2 : pairB (fun i => F (m + 4 + i)) (leTo F 8) = true) (p3 : ¬ leTo (fun i => F (m + i)) 4 = crc F m) :
    Calls Try.prog 64 #[.slice (some ⟨b, o, none⟩) n c] w fun e w' => e = .returned (.tuple #[.int .i64 0, .slice none 0 0, .int .i64 5]) ∧ Below w.heap.size w w' := by
  have hT : fitsB (n : Int) = true := fitsB_t (by omega) (by omega)
  have HT := Lib.hid hT
  have P1 := Lib.hid p1
  have P2 := Lib.hid p2
  have p4 : ((leTo (fun i => F (m + i)) 4 : Int) != (crc F m : Int)) = true := by rw [bne_iff_ne]; omega
  have P3 := Lib.hid p4
  clear p1 p2 p3 p4
  clear hT
  go_enter Try.func64, Try.ntmps64
  go_wp2_with fail
  refine (fits_any _ _).mono ?_
  rintro e w' ⟨rfl, rfl⟩
  rw [HT.out]
  go_wp2_with fail
  refine (parts_at _ _ _ m _ _ h1 h2 hc hc2).mono ?_
  rintro e w' ⟨rfl, q, rfl⟩
  have hb1 : Bytes (w.drewN q) (some ⟨b, o, none⟩) n F := hb
  have l1 := below_drewN (Below.refl w.heap.size w) q
  generalize World.drewN w q = W1 at *
  have hbm := hb1.head m (by omega)
  have hv1 : (1 : Int) ≤ (leTo F 8 : Int) := by omega
  have hv2 : (leTo F 8 : Int) ≤ 4611686018427387904 := by omega
  go_wp2_with fail
  refine (take64_any _ 8 _ F _ (hb1.head 8 (by omega)) (by omega)).mono ?_
  rintro e w' ⟨rfl, rfl⟩
  obtain ⟨v, hvv⟩ : ∃ v, v = leTo F 8 := ⟨_, rfl⟩
  rw [← hvv] at hv1 hv2 k1 k2 P1 P2 ⊢
  clear hvv
  go_wp2_with fail
  refine (isPair_any b o m m v F W1 hbm (by omega) (by omega) (by omega)).mono ?_
  rintro e w' ⟨rfl, rfl⟩
  rw [P1.out]
  go_wp2_with fail
  refine (isPair_any b (o + (m + 4)) 16 _ v _ W1 (hb1.cut (m + 4) 16 (by omega)) (by omega) (by omega) (by omega)).mono ?_
  rintro e w' ⟨rfl, rfl⟩
  rw [P2.out]
  go_wp2_with fail
  refine (take32_any _ 4 _ _ _ (hb1.cut m 4 (by omega)) (by omega)).mono ?_
  rintro e w' ⟨rfl, rfl⟩
  go_wp2_with fail
  refine (check_any _ m _ F W1 hbm).mono ?_
  rintro e w' ⟨rfl, rfl⟩
  have q3 := P3.out
  go_wp2
  go_ret3
  exact ⟨rfl, l1⟩

theorem read_no (b o n m c : Nat) (F : Nat → Nat) (w : World) (h1 : m + 20 ≤ n) (h2 : n ≤ m + 20) (h44 : 44 ≤ m) (hm : m ≤ 4076) (hc : n ≤ c) (hc2 : c ≤ 9223372036854775807) (hb : Bytes w (some ⟨b, o, none⟩) n F) (hok : ¬ okP F m) :
    Calls Try.prog 64 #[.slice (some ⟨b, o, none⟩) n c] w fun e w' => e = .returned (.tuple #[.int .i64 0, .slice none 0 0, .int .i64 5]) ∧ Below w.heap.size w w' := by
  by_cases k1 : leTo F 8 < 1
  · exact read_no_low b o n m c F w h1 h2 h44 hm hc hc2 hb k1
  · by_cases k2 : 4611686018427387904 < leTo F 8
    · exact read_no_high b o n m c F w h1 h2 h44 hm hc hc2 hb k2
    · by_cases p1 : pairB F (leTo F 8) = true
      · by_cases p2 : pairB (fun i => F (m + 4 + i)) (leTo F 8) = true
        · by_cases p3 : leTo (fun i => F (m + i)) 4 = crc F m
          · exact absurd ⟨⟨by omega, by omega⟩, p1, p2, p3⟩ hok
          · exact read_no_sum b o n m c F w h1 h2 h44 hm hc hc2 hb (by omega) (by omega) p1 p2 p3
        · exact read_no_last b o n m c F w h1 h2 h44 hm hc hc2 hb (by omega) (by omega) p1 (by simpa using p2)
      · exact read_no_first b o n m c F w h1 h2 h44 hm hc hc2 hb (by omega) (by omega) (by simpa using p1)
end Go.Proofs.Ytdbfmllcapikkaa
/- Plain facts on a log: numbers in bytes, loads, marks, slots. -/
namespace Go.Proofs.Ytdbfmllcapikkaa
open Go.RowKit

/-- A word of 64 bits, taken as a number that may be below 0. -/
theorem ofInt_wrap64 (y : Int) : BitVec.ofInt 64 (IntKind.i64.wrap y) = BitVec.ofInt 64 y := by
  apply BitVec.eq_of_toNat_eq
  simp only [BitVec.toNat_ofInt]
  rw [IntKind.wrap_i64]
  have h : ((y + 9223372036854775808) % 18446744073709551616 - 9223372036854775808) % ((2 ^ 64 : Nat) : Int) = y % ((2 ^ 64 : Nat) : Int) := by
    have e : ((2 ^ 64 : Nat) : Int) = 18446744073709551616 := by decide
    rw [e]
    omega
  rw [h]
theorem ofInt64_nat (a : Nat) (ha : a < 18446744073709551616) : (BitVec.ofInt 64 (a : Int)).toNat = a := by
  rw [BitVec.ofInt_natCast, BitVec.toNat_ofNat]; exact Nat.mod_eq_of_lt (by omega)
theorem or64i {x f k : Nat} (hx : x < 256 ^ k) (hf : f < 256) (hk : k < 8) :
    bits BinOp.or IntKind.i64 (x : Int) (IntKind.i64.wrap ((f : Int) * 2 ^ (8 * k))) = IntKind.i64.wrap ((x + f * 256 ^ k : Nat) : Int) := by
  have e : (2 : Int) ^ (8 * k) = ((256 ^ k : Nat) : Int) := by rw [Int.pow_mul]; simp
  have h1 := small_mul hf hk
  have h2 : (256 : Nat) ^ k ≤ 256 ^ 8 := Nat.pow_le_pow_right (by omega) (by omega)
  have e8 : (256 : Nat) ^ 8 = 18446744073709551616 := by decide
  rw [e8] at h1 h2
  show IntKind.i64.wrap ((BitVec.ofInt 64 (x : Int) ||| BitVec.ofInt 64 (IntKind.i64.wrap ((f : Int) * 2 ^ (8 * k)))).toNat : Int) = _
  rw [ofInt_wrap64, e, ← Int.natCast_mul, BitVec.toNat_or, ofInt64_nat x (by omega), ofInt64_nat _ h1, or_disjoint hx]
theorem wrap_small {x : Nat} (h : x ≤ 9223372036854775807) : IntKind.i64.wrap (x : Int) = (x : Int) := by rw [IntKind.wrap_i64]; omega
theorem pow7 {k : Nat} (h : k < 8) : (256 : Nat) ^ k ≤ 72057594037927936 := by
  have h2 : (256 : Nat) ^ k ≤ 256 ^ 7 := Nat.pow_le_pow_right (by omega) (by omega)
  have e7 : (256 : Nat) ^ 7 = 72057594037927936 := by decide
  omega

/-- What Take of eight bytes tells. -/
def takeI (F : Nat → Nat) : Int := IntKind.i64.wrap (leTo F 8 : Int)
/-- A slot's mark. -/
def mkN (epoch i : Nat) : Nat := 2097152 * epoch + i + 1
/-- What a load is, as it is laid into a slot. -/
def loadF (page : Nat) (last : Bool) (G : Nat → Nat) (i : Nat) : Nat := if i < 8 then leF page i else if i = 8 then (if last then 1 else 0) else G (i - 9)
theorem loadF_lt {page n : Nat} {last : Bool} {G : Nat → Nat} (h : ∀ i, i < n → G i < 256) : ∀ i, i < 9 + n → loadF page last G i < 256 := fun i hi => by
  unfold loadF
  split
  · exact leF_lt _ _
  · split
    · split <;> omega
    · exact h _ (by omega)

instance (F : Nat → Nat) (m : Nat) : Decidable (okP F m) := by unfold okP; exact inferInstance
/-- Is a slot's sector (F of m + 20 bytes) one of an epoch: its mark's parts. -/
def epochN (F : Nat → Nat) (m i : Nat) : Nat :=
  if okP F m then (if 1 ≤ leTo F 8 / 2097152 ∧ leTo F 8 / 2097152 ≤ 1099511627776 ∧ leTo F 8 = mkN (leTo F 8 / 2097152) i then leTo F 8 / 2097152 else 0) else 0
/-- The page and the flag of a slot's load. -/
def pageI (F : Nat → Nat) : Int := takeI fun i => F (16 + i)
def flagN (F : Nat → Nat) : Nat := F 24
/-- Does a slot hold a change of that epoch? -/
def isCh (F : Nat → Nat) (m i epoch : Nat) : Prop := epochN F m i = epoch ∧ 0 ≤ pageI F ∧ pageI F ≤ 2147483647 ∧ flagN F ≤ 1
instance (F : Nat → Nat) (m i epoch : Nat) : Decidable (isCh F m i epoch) := by unfold isCh; exact inferInstance
end Go.Proofs.Ytdbfmllcapikkaa
/- little.Put, little.Take; the log's small functions. -/
namespace Go.Proofs.Ytdbfmllcapikkaa
open Go.RowKit
set_option linter.unusedVariables false

theorem byte_at2 (v k : Nat) : ((v : Int) / 2 ^ (8 * k) % 256) = ((v / 256 ^ k % 256 : Nat) : Int) := byte_at v k
set_option maxHeartbeats 1000000 in
theorem put_any (g off m c n v : Nat) (F : Nat → Nat) (w : World) (h : BRow w g n F) (hm : off + 8 ≤ n) (h8 : 8 ≤ m) (hmc : m ≤ c) (hc : c ≤ 9223372036854775807) (hv : v ≤ 9223372036854775807) :
    Calls Try.prog 68 #[.slice (some ⟨g, off, none⟩) m c, .int .i64 v] w fun e w' => e = .returned (.tuple #[]) ∧ BRow w' g n (putF F off 8 v) ∧ w.grownBy w' (some g) := by
  have hc8 : 8 ≤ c := by omega
  have hv0 : (0 : Int) ≤ v := by omega
  go_enter Try.func68, Try.ntmps68
  go_wp2_with fail
  go_loopw [8] (fun i wr => ∃ k : Nat, k ≤ 8 ∧ i = .int .i64 k ∧ BRow wr g n (putF F off k v) ∧ w.grownBy wr (some g)) (fun i _ => 8 - (intOf i).toNat)
  case atStart => exact ⟨0, by omega, rfl, h.congr fun i _ => by unfold putF; rw [if_neg (by omega)], World.grownBy.refl w _⟩
  case round =>
    obtain ⟨k, hk, rfl, hr, hg⟩ := hrel
    by_cases hlt : k < 8
    · have hc := hr.cell (i := off + k) (by omega)
      have hf := hr.frozen (off + k)
      have hkm : k < m := by omega
      go_wp2_with fail
      rw [byte_at]
      go_roundw
      case rel => exact ⟨k + 1, by omega, by go_num, (hr.set_ (off + k) _ (Nat.mod_lt _ (by omega))).congr fun i _ => putF_step F off k v i, hg.trans (grown_store _ _ _)⟩
      case measure => simp [intOf]; omega
    · obtain rfl : k = 8 := by omega
      go_wp2_with fail
      go_end0
      exact ⟨rfl, hr, hg⟩
theorem leTo_small {F : Nat → Nat} : ∀ {k : Nat}, (∀ i, i < k → F i < 256) → leTo F k < 256 ^ k := fun {k} h => leTo_lt h
set_option maxHeartbeats 1000000 in
theorem take_any (b o m c : Nat) (F : Nat → Nat) (w : World) (h : Bytes w (some ⟨b, o, none⟩) m F) (h8 : 8 ≤ m) (hmc : m ≤ c) (hc : c ≤ 9223372036854775807) :
    Calls Try.prog 58 #[.slice (some ⟨b, o, none⟩) m c] w fun e w' => e = .returned (.int .i64 (takeI F)) ∧ w = w' := by
  have hc8 : 8 ≤ c := by omega
  have hlt := h.2.1
  obtain ⟨b', o', e, hcell⟩ := h.2.2 (by omega)
  injection e with e
  injection e with e1 e2
  subst e1 e2
  go_enter Try.func58, Try.ntmps58
  go_wp2
  go_loop [3, 9] (fun n i => ∃ k : Nat, k ≤ 8 ∧ i = .int .i64 k ∧ n = .int .i64 (IntKind.i64.wrap (leTo F k : Int))) (fun _ i => 8 - (intOf i).toNat)
  case atStart => exact ⟨0, by omega, rfl, rfl⟩
  case round =>
    obtain ⟨k, hk, rfl, rfl⟩ := hrel
    by_cases hlt8 : k < 8
    · have hck := hcell k (by omega)
      have hx := leTo_small (F := F) (k := k) fun i hi => hlt i (by omega)
      have hFk := hlt k (by omega)
      have HO := Lib.hid (or64i hx hFk hlt8)
      have hkm : k < m := by omega
      rw [show IntKind.i64.wrap (leTo F k : Int) = (leTo F k : Int) from wrap_small (by have := pow7 hlt8; omega)]
      clear hx
      go_wp2
      go_round
      case rel =>
        refine ⟨k + 1, by omega, by go_num, ?_⟩
        exact congrArg _ (by rw [← IntWalk.i64_left]; exact HO.out)
      case measure => simp [intOf]; omega
    · go_wp2
      obtain rfl : k = 8 := by omega
      go_ret
      exact ⟨rfl, rfl⟩
def isEpochB (n : Int) : Bool := decide (1 ≤ n ∧ n ≤ 1099511627776)
def isPageB (n : Int) : Bool := decide (0 ≤ n ∧ n ≤ 2147483647)
theorem ret_bl {a b : Bool} (h : a = b) : Ending.returned (.bool a) = .returned (.bool b) := by rw [h]
theorem isEpoch_any (n : Int) (w : World) : Calls Try.prog 35 #[.int .i64 n] w fun e w' => e = .returned (.bool (isEpochB n)) ∧ w = w' := by
  by_cases h1 : 1 ≤ n <;> by_cases h2 : n ≤ 1099511627776
  all_goals
    have H := Lib.hid (show isEpochB n = decide (1 ≤ n ∧ n ≤ 1099511627776) from rfl)
    go_enter Try.func35, Try.ntmps35
    go_wp2
    go_ret
    exact ⟨ret_bl (by rw [H.out]; first | exact (decide_eq_true (by omega)).symm | exact (decide_eq_false (by omega)).symm), rfl⟩
theorem isPage_any (n : Int) (w : World) : Calls Try.prog 59 #[.int .i64 n] w fun e w' => e = .returned (.bool (isPageB n)) ∧ w = w' := by
  by_cases h1 : 0 ≤ n <;> by_cases h2 : n ≤ 2147483647
  all_goals
    have H := Lib.hid (show isPageB n = decide (0 ≤ n ∧ n ≤ 2147483647) from rfl)
    go_enter Try.func59, Try.ntmps59
    go_wp2
    go_ret
    exact ⟨ret_bl (by rw [H.out]; first | exact (decide_eq_true (by omega)).symm | exact (decide_eq_false (by omega)).symm), rfl⟩
theorem markOf_any (epoch i : Nat) (w : World) (he : epoch ≤ 1099511627776) (hi : i ≤ 1048576) : Calls Try.prog 62 #[.int .i64 epoch, .int .i64 i] w fun e w' => e = .returned (.int .i64 (mkN epoch i : Nat)) ∧ w = w' := by
  have H := Lib.hid (show ((mkN epoch i : Nat) : Int) = 2097152 * (epoch : Int) + (i : Int) + 1 by unfold mkN; omega)
  go_enter Try.func62, Try.ntmps62
  go_wp2
  go_ret
  exact ⟨by rw [H.out]; rfl, rfl⟩
end Go.Proofs.Ytdbfmllcapikkaa
/- log.slot.read: the epoch in which a slot was written, and its load. -/
namespace Go.Proofs.Ytdbfmllcapikkaa
open Go.RowKit
set_option linter.unusedVariables false

theorem epoch_bad {F : Nat → Nat} {m i : Nat} (h : ¬ okP F m) : epochN F m i = 0 := if_neg h
theorem epoch_out {F : Nat → Nat} {m i : Nat} (h : ¬ (1 ≤ leTo F 8 / 2097152 ∧ leTo F 8 / 2097152 ≤ 1099511627776)) : epochN F m i = 0 := by
  unfold epochN
  split
  · rw [if_neg fun k => h ⟨k.1, k.2.1⟩]
  · rfl
theorem epoch_else {F : Nat → Nat} {m i : Nat} (h : leTo F 8 ≠ mkN (leTo F 8 / 2097152) i) : epochN F m i = 0 := by
  unfold epochN
  split
  · rw [if_neg fun k => h k.2.2]
  · rfl
theorem epoch_yes {F : Nat → Nat} {m i : Nat} (h : okP F m) (h1 : 1 ≤ leTo F 8 / 2097152 ∧ leTo F 8 / 2097152 ≤ 1099511627776) (h2 : leTo F 8 = mkN (leTo F 8 / 2097152) i) : epochN F m i = leTo F 8 / 2097152 := by
  unfold epochN
  rw [if_pos h, if_pos ⟨h1.1, h1.2, h2⟩]
set_option maxHeartbeats 4000000 in
set_option maxRecDepth 100000 in
theorem slotRead_any (i b o n m c : Nat) (F : Nat → Nat) (w : World) (hi : i ≤ 1048576) (h1 : m + 20 ≤ n) (h2 : n ≤ m + 20) (h44 : 44 ≤ m) (hm : m ≤ 4076) (hc : n ≤ c) (hc2 : c ≤ 9223372036854775807) (hb : Bytes w (some ⟨b, o, none⟩) n F) :
    Calls Try.prog 45 #[.agg #[.int .i64 i, .slice (some ⟨b, o, none⟩) n c]] w fun e w' =>
      (epochN F m i = 0 ∧ e = .returned (.tuple #[.int .i64 0, .slice none 0 0]) ∨ epochN F m i ≠ 0 ∧ ∃ B d, e = .returned (.tuple #[.int .i64 (epochN F m i), .slice B (m - 16) d]) ∧ Bytes w' B (m - 16) (fun j => F (16 + j)) ∧ m - 16 ≤ d ∧ d ≤ 9223372036854775807 ∧ (B = none → d = 0) ∧ (∀ b' o', B = some ⟨b', o', none⟩ → w.heap.size ≤ b')) ∧ Below w.heap.size w w' := by
  obtain ⟨W1, hW1⟩ : ∃ W1, W1 = w.alloc (.cells #[.int .i64 i, .slice (some ⟨b, o, none⟩) n c] 90) := ⟨_, rfl⟩
  have hz1 : W1.heap.size = w.heap.size + 1 := by rw [hW1]; simp
  have L1 := Lib.hid (show Below w.heap.size w W1 by rw [hW1]; exact (Below.refl _ _).alloc (Nat.le_refl _) _)
  have C1 := Lib.hid (show ∀ W : World, Below W1.heap.size W1 W → W.cell? ⟨w.heap.size, 0, none⟩ = some (.int .i64 i) ∧ W.cell? ⟨w.heap.size, 1, none⟩ = some (.slice (some ⟨b, o, none⟩) n c) ∧ Below w.heap.size w W from fun W l => by
    refine ⟨(l.cell (p := ⟨w.heap.size, 0, none⟩) (by rw [hz1]; exact Nat.lt_succ_self _)).trans ?_, (l.cell (p := ⟨w.heap.size, 1, none⟩) (by rw [hz1]; exact Nat.lt_succ_self _)).trans ?_, L1.out.trans (l.mono L1.out.size)⟩ <;> rw [hW1] <;> simp)
  have hb1 := hb.below L1.out (Nat.le_refl _)
  have HW1 := Lib.hid hW1
  clear hW1 hz1 hb
  by_cases hok : okP F m
  case neg =>
    have K := Lib.hid (read_no b o n m c F W1 h1 h2 h44 hm hc hc2 hb1 hok)
    have HE := Lib.hid (epoch_bad (i := i) hok)
    clear hb1 hok
    go_enter Try.func45, Try.ntmps45
    go_upto_region 1 with (fail)
    rw [← HW1.out]
    obtain ⟨c0, c1, _⟩ := C1.out W1 (Below.refl _ _)
    go_wp2_with fail
    refine K.out.mono ?_
    rintro e W2 ⟨rfl, l2⟩
    have L2 := Lib.hid l2
    clear l2 c0 c1
    go_wp2_with fail
    go_ret2
    exact ⟨.inl ⟨HE.out, rfl⟩, (C1.out _ L2.out).2.2⟩
  have K := Lib.hid (read_yes2 b o n m c F W1 h1 h2 h44 hm hc hc2 hb1 hok)
  obtain ⟨v, hv⟩ : ∃ v, v = leTo F 8 := ⟨_, rfl⟩
  have hvb : 1 ≤ v ∧ v ≤ 4611686018427387904 := by rw [hv]; exact hok.1
  obtain ⟨hv0, hv1⟩ := hvb
  obtain ⟨Q, hQ⟩ : ∃ Q, Q = v / 2097152 := ⟨_, rfl⟩
  have hq : (v : Int) / 2097152 = (Q : Int) := by rw [hQ]; simp
  have hQb : Q ≤ 2199023255552 := by omega
  by_cases he : 1 ≤ Q ∧ Q ≤ 1099511627776
  case neg =>
    have EE := Lib.hid (show isEpochB (Q : Int) = false from decide_eq_false (by omega))
    have HE := Lib.hid (epoch_out (F := F) (m := m) (i := i) (by rw [← hv, ← hQ]; exact he))
    rw [← hv] at K
    clear hb1 hok hv hQ he
    go_enter Try.func45, Try.ntmps45
    go_upto_region 1 with (fail)
    rw [← HW1.out]
    obtain ⟨c0, c1, _⟩ := C1.out W1 (Below.refl _ _)
    go_wp2_with fail
    refine K.out.mono ?_
    rintro e W2 ⟨B, d, rfl, _, _, _, l2, _⟩
    have L2 := Lib.hid l2
    clear l2 c0 c1
    obtain ⟨c0, c1, _⟩ := C1.out _ L2.out
    go_wp2_with fail
    refine (isEpoch_any _ _).mono ?_
    rintro e w' ⟨rfl, rfl⟩
    rw [EE.out]
    go_wp2_with fail
    go_ret2
    exact ⟨.inl ⟨HE.out, rfl⟩, (C1.out _ L2.out).2.2⟩
  have EE := Lib.hid (show isEpochB (Q : Int) = true from decide_eq_true (by omega))
  have MM := Lib.hid (fun W => markOf_any Q i W he.2 hi)
  by_cases hk : v = mkN Q i
  case neg =>
    have HE := Lib.hid (epoch_else (F := F) (m := m) (i := i) (by rw [← hv, ← hQ]; exact hk))
    have e1 : ((v : Int) != ((mkN Q i : Nat) : Int)) = true := by simp; omega
    rw [← hv] at K
    clear hb1 hok hv hQ he hk
    go_enter Try.func45, Try.ntmps45
    go_upto_region 1 with (fail)
    rw [← HW1.out]
    obtain ⟨c0, c1, _⟩ := C1.out W1 (Below.refl _ _)
    go_wp2_with fail
    refine K.out.mono ?_
    rintro e W2 ⟨B, d, rfl, _, _, _, l2, _⟩
    have L2 := Lib.hid l2
    clear l2 c0 c1
    obtain ⟨c0, c1, _⟩ := C1.out _ L2.out
    go_wp2_with fail
    refine (isEpoch_any _ _).mono ?_
    rintro e w' ⟨rfl, rfl⟩
    rw [EE.out]
    go_wp2_with fail
    refine (MM.out _).mono ?_
    rintro e w' ⟨rfl, rfl⟩
    go_wp2_with fail
    go_ret2
    exact ⟨.inl ⟨HE.out, rfl⟩, (C1.out _ L2.out).2.2⟩
  have HE := Lib.hid ((epoch_yes (F := F) (m := m) (i := i) hok (by rw [← hv, ← hQ]; exact he) (by rw [← hv, ← hQ]; exact hk)).trans (by rw [← hv, ← hQ]))
  have HQ0 := Lib.hid (show Q ≠ 0 by omega)
  have e1 : ((v : Int) != ((mkN Q i : Nat) : Int)) = false := by rw [← hk]; simp
  rw [← hv] at K
  clear hb1 hok hv hQ he hk
  go_enter Try.func45, Try.ntmps45
  go_upto_region 1 with (fail)
  rw [← HW1.out]
  obtain ⟨c0, c1, _⟩ := C1.out W1 (Below.refl _ _)
  go_wp2_with fail
  refine K.out.mono ?_
  rintro e W2 ⟨B, d, rfl, b2, d2, d3, l2, d4, d5⟩
  have L2 := Lib.hid l2
  have R2 := Lib.hid (And.intro b2 (And.intro d2 (And.intro d4 (And.intro d3 (show ∀ b' o', B = some ⟨b', o', none⟩ → w.heap.size ≤ b' from fun b' o' e => Nat.le_trans L1.out.size (d5 b' o' e))))))
  clear l2 c0 c1 b2 d2 d3 d4 d5
  obtain ⟨c0, c1, _⟩ := C1.out _ L2.out
  go_wp2_with fail
  refine (isEpoch_any _ _).mono ?_
  rintro e w' ⟨rfl, rfl⟩
  rw [EE.out]
  go_wp2_with fail
  refine (MM.out _).mono ?_
  rintro e w' ⟨rfl, rfl⟩
  go_wp2_with fail
  go_ret2
  rw [HE.out]
  exact ⟨.inr ⟨HQ0.out, B, d, rfl, R2.out⟩, (C1.out _ L2.out).2.2⟩
end Go.Proofs.Ytdbfmllcapikkaa
/- log.slot.change: the change that a slot holds in an epoch. -/
namespace Go.Proofs.Ytdbfmllcapikkaa
open Go.RowKit
set_option linter.unusedVariables false

theorem isPage_yes {n : Int} (h : 0 ≤ n ∧ n ≤ 2147483647) : isPageB n = true := decide_eq_true h
theorem isPage_no {n : Int} (h : ¬ (0 ≤ n ∧ n ≤ 2147483647)) : isPageB n = false := decide_eq_false h
theorem cell_lt' {w : World} {a : Addr} {v : Value} (h : w.cell? a = some v) : a.block < w.heap.size := by
  rcases Nat.lt_or_ge a.block w.heap.size with hlt | hge
  · exact hlt
  · rw [World.cell?, Array.getElem?_eq_none hge] at h
    cases h
theorem put2_at {W : World} {z : Nat} {x y : Value} (h0 : W.cell? ⟨z, 0, none⟩ = some x) (h1 : W.cell? ⟨z, 1, none⟩ = some y) (a b : Value) :
    ((W.setCell ⟨z, 0, none⟩ a).setCell ⟨z, 1, none⟩ b).cell? ⟨z, 0, none⟩ = some a ∧ ((W.setCell ⟨z, 0, none⟩ a).setCell ⟨z, 1, none⟩ b).cell? ⟨z, 1, none⟩ = some b := by
  have n : (⟨z, 0, none⟩ : Addr) ≠ ⟨z, 1, none⟩ := fun e => by injection e with _ e; cases e
  refine ⟨?_, ?_⟩
  · exact (World.cell?_setCell_other (h := n.symm) ..).trans (World.cell?_setCell_same (h := h0) ..)
  · exact World.cell?_setCell_same (h := (World.cell?_setCell_other (h := n) ..).trans h1) ..
theorem put2_far {W : World} {z x y : Nat} (a b : Value) : ((W.setCell ⟨z, 0, none⟩ a).setCell ⟨z, 1, none⟩ b).cell? ⟨x, y + 2, none⟩ = W.cell? ⟨x, y + 2, none⟩ := by
  have n0 : (⟨z, 0, none⟩ : Addr) ≠ ⟨x, y + 2, none⟩ := fun e => by injection e with _ e; omega
  have n1 : (⟨z, 1, none⟩ : Addr) ≠ ⟨x, y + 2, none⟩ := fun e => by injection e with _ e; omega
  exact (World.cell?_setCell_other (h := n1) ..).trans (World.cell?_setCell_other (h := n0) ..)
theorem put2_bytes {W : World} {z x y n : Nat} {G : Nat → Nat} (h : Bytes W (some ⟨x, y + 2, none⟩) n G) (a b : Value) : Bytes ((W.setCell ⟨z, 0, none⟩ a).setCell ⟨z, 1, none⟩ b) (some ⟨x, y + 2, none⟩) n G := by
  refine ⟨h.1, h.2.1, fun hn => ?_⟩
  obtain ⟨b', o', e, hc⟩ := h.2.2 hn
  injection e with e
  injection e with e1 e2
  subst e1 e2
  refine ⟨x, y + 2, rfl, fun i hi => ?_⟩
  have := hc i hi
  rw [show y + 2 + i = (y + i) + 2 by omega] at this ⊢
  exact (put2_far a b).trans this
/-- What change tells. -/
def ChP (F : Nat → Nat) (m i epoch : Nat) (w : World) (e : Ending) (w' : World) : Prop :=
  (¬ isCh F m i epoch ∧ e = .returned (.tuple #[.agg #[.int .i64 0, .slice none 0 0], .bool false, .bool false]) ∨
    isCh F m i epoch ∧ ∃ B d, e = .returned (.tuple #[.agg #[.int .i64 (pageI F), .slice B (m - 25) d], .bool (decide (flagN F = 1)), .bool true]) ∧ Bytes w' B (m - 25) (fun j => F (25 + j)) ∧ m - 25 ≤ d ∧ d ≤ 9223372036854775807 ∧ (B = none → d = 0) ∧ (∀ b' o', B = some ⟨b', o', none⟩ → w.heap.size ≤ b')) ∧ Below w.heap.size w w'
set_option maxHeartbeats 4000000 in
set_option maxRecDepth 100000 in
theorem change_any (i b o n m c epoch : Nat) (F : Nat → Nat) (w : World) (hep : 1 ≤ epoch) (hi : i ≤ 1048576) (h1 : m + 20 ≤ n) (h2 : n ≤ m + 20) (h44 : 44 ≤ m) (hm : m ≤ 4076) (hc : n ≤ c) (hc2 : c ≤ 9223372036854775807) (hb : Bytes w (some ⟨b, o, none⟩) n F) :
    Calls Try.prog 37 #[.agg #[.int .i64 i, .slice (some ⟨b, o, none⟩) n c], .int .i64 epoch] w (ChP F m i epoch w) := by
  obtain ⟨W1, hW1⟩ : ∃ W1, W1 = (w.alloc (.cells #[.int .i64 i, .slice (some ⟨b, o, none⟩) n c] 90)).alloc (.cells #[.int .i64 0, .slice none 0 0] 44) := ⟨_, rfl⟩
  have hz1 : W1.heap.size = w.heap.size + 2 := by rw [hW1]; simp
  have L1 := Lib.hid (show Below w.heap.size w W1 by rw [hW1]; exact ((Below.refl _ _).alloc (Nat.le_refl _) _).alloc (by simp) _)
  have C1 := Lib.hid (show ∀ W : World, Below W1.heap.size W1 W → W.cell? ⟨w.heap.size, 0, none⟩ = some (.int .i64 i) ∧ W.cell? ⟨w.heap.size, 1, none⟩ = some (.slice (some ⟨b, o, none⟩) n c) ∧ W.cell? ⟨w.heap.size + 1, 0, none⟩ = some (.int .i64 0) ∧ W.cell? ⟨w.heap.size + 1, 1, none⟩ = some (.slice none 0 0) ∧ W.frozen? ⟨w.heap.size + 1, 0, none⟩ = false ∧ W.frozen? ⟨w.heap.size + 1, 1, none⟩ = false ∧ Below w.heap.size w W from fun W l => by
    refine ⟨(l.cell (p := ⟨w.heap.size, 0, none⟩) (by rw [hz1]; show w.heap.size < _; omega)).trans ?_, (l.cell (p := ⟨w.heap.size, 1, none⟩) (by rw [hz1]; show w.heap.size < _; omega)).trans ?_, (l.cell (p := ⟨w.heap.size + 1, 0, none⟩) (by rw [hz1]; show w.heap.size + 1 < _; omega)).trans ?_, (l.cell (p := ⟨w.heap.size + 1, 1, none⟩) (by rw [hz1]; show w.heap.size + 1 < _; omega)).trans ?_, (l.frozen (p := ⟨w.heap.size + 1, 0, none⟩) (by rw [hz1]; show w.heap.size + 1 < _; omega)).trans ?_, (l.frozen (p := ⟨w.heap.size + 1, 1, none⟩) (by rw [hz1]; show w.heap.size + 1 < _; omega)).trans ?_, L1.out.trans (l.mono L1.out.size)⟩ <;> rw [hW1] <;> simp)
  have K := Lib.hid (slotRead_any i b o n m c F W1 hi h1 h2 h44 hm hc hc2 (hb.below L1.out (Nat.le_refl _)))
  have HW1 := Lib.hid hW1
  clear hW1 hz1 hb
  go_enter Try.func37, Try.ntmps37
  go_upto_region 1 with (fail)
  rw [← HW1.out]
  obtain ⟨c0, c1, e0, e1, f0, f1, _⟩ := C1.out W1 (Below.refl _ _)
  go_wp2_with fail
  refine K.out.mono ?_
  rintro e W2 ⟨hr, l2⟩
  have L2 := Lib.hid l2
  clear l2 c0 c1 e0 e1 f0 f1
  have hzz := Lib.hid (show ∀ W : World, Below W1.heap.size W1 W → w.heap.size + 1 < W.heap.size from fun W l => cell_lt' (C1.out W l).2.2.1)
  rcases hr with ⟨hE, rfl⟩ | ⟨hE, B, d, rfl, hB, hd1, hd2, hd3, hd5⟩
  · have n1 : ((0 : Int) != (epoch : Int)) = true := by simp; omega
    have NO := Lib.hid (show ¬ isCh F m i epoch from fun k => by have := k.1; omega)
    clear hE
    obtain ⟨c0, c1, e0, e1, f0, f1, lw⟩ := C1.out _ L2.out
    have hz := hzz.out _ L2.out
    have hs := put2_at e0 e1 (.int .i64 0) (.slice none 0 0)
    have LB := Lib.hid ((lw.setCell (p := ⟨w.heap.size + 1, 0, none⟩) (by simp) (.int .i64 0)).setCell (p := ⟨w.heap.size + 1, 1, none⟩) (by simp) (.slice none 0 0))
    have HS := Lib.hid hs
    clear lw hs
    go_wp2_with fail
    obtain ⟨d0, d1⟩ := HS.out
    exact bodyPost_ret (v := .tuple #[.agg #[.int .i64 0, .slice none 0 0], .bool false, .bool false]) (by simp [results, Try.results37, go_sem, d0, d1]) rfl ⟨.inl ⟨NO.out, rfl⟩, LB.out⟩
  obtain ⟨E, hEE⟩ : ∃ E, E = epochN F m i := ⟨_, rfl⟩
  rw [← hEE]
  by_cases hne : E = epoch
  case neg =>
    have n1 : ((E : Int) != (epoch : Int)) = true := by simp; omega
    have NO := Lib.hid (show ¬ isCh F m i epoch from fun k => hne (hEE.trans k.1))
    clear hE hEE hne
    obtain ⟨c0, c1, e0, e1, f0, f1, lw⟩ := C1.out _ L2.out
    have hz := hzz.out _ L2.out
    have hs := put2_at e0 e1 (.int .i64 0) (.slice none 0 0)
    have LB := Lib.hid ((lw.setCell (p := ⟨w.heap.size + 1, 0, none⟩) (by simp) (.int .i64 0)).setCell (p := ⟨w.heap.size + 1, 1, none⟩) (by simp) (.slice none 0 0))
    have HS := Lib.hid hs
    have HB := Lib.hid hB
    clear lw hs hB
    go_wp2_with fail
    obtain ⟨d0, d1⟩ := HS.out
    exact bodyPost_ret (v := .tuple #[.agg #[.int .i64 0, .slice none 0 0], .bool false, .bool false]) (by simp [results, Try.results37, go_sem, d0, d1]) rfl ⟨.inl ⟨NO.out, rfl⟩, LB.out⟩
  subst hne
  have n1 : ((E : Int) != (E : Int)) = false := by simp
  obtain ⟨hb1, hb2, hb3⟩ := id hB
  obtain ⟨bb, oo, rfl, hcell⟩ := hb3 (by omega)
  have HD5 := Lib.hid (show w.heap.size ≤ bb from Nat.le_trans L1.out.size (hd5 bb oo rfl))
  clear hd5
  obtain ⟨f, hf⟩ : ∃ f, f = F 24 := ⟨_, rfl⟩
  have q8 : W2.cell? ⟨bb, oo + 8, none⟩ = some (.int .u8 (F 24 : Nat)) := hcell 8 (by omega)
  rw [← hf] at q8
  obtain ⟨P, hP⟩ : ∃ P, P = pageI F := ⟨_, rfl⟩
  have T := Lib.hid (show ∀ k : Nat, Calls Try.prog 58 #[.slice (some ⟨bb, oo, none⟩) (m - 16) d] (W2.drewN k) fun e w' => e = .returned (.int .i64 P) ∧ W2.drewN k = w' from fun k => by rw [hP]; exact take_any bb oo (m - 16) d _ (W2.drewN k) hB (by omega) hd1 hd2)
  have hm8 : 8 < m - 16 := by omega
  have hmI : (8 : Int) < ((m - 16 : Nat) : Int) := by omega
  have hm9 : 9 ≤ m - 16 := by omega
  have HCH := Lib.hid (show isCh F m i E ↔ (0 ≤ P ∧ P ≤ 2147483647) ∧ f ≤ 1 from ⟨fun k => ⟨⟨by rw [hP]; exact k.2.1, by rw [hP]; exact k.2.2.1⟩, by rw [hf]; exact k.2.2.2⟩, fun k => ⟨hEE.symm, by rw [← hP]; exact k.1.1, by rw [← hP]; exact k.1.2, by show F 24 ≤ 1; rw [← hf]; exact k.2⟩⟩)
  have HBT := Lib.hid hB
  have HP := Lib.hid hP
  have HF := Lib.hid hf
  have hf0 : (0 : Int) ≤ (f : Int) := by omega
  have LK := Lib.hid (fun k => below_drewN L2.out k)
  clear hB hb2 hb3 hcell hP hf hE hEE
  go_wp2_with fail
  go_quiet ((go_at_call 58; exact Calls.quiet_of_same ((T.out _).mono fun e w' ⟨he, hw⟩ => ⟨he, hw.symm⟩)))
  all_goals
    go_wp2_with fail
    refine (isPage_any _ _).mono ?_
    rintro e w' ⟨rfl, rfl⟩
    by_cases hp : 0 ≤ P ∧ P ≤ 2147483647
    case neg =>
      rw [isPage_no hp]
      have NO := Lib.hid (show ¬ isCh F m i E from fun k => hp (HCH.out.1 k).1)
      clear hp
      obtain ⟨c0, c1, e0, e1, f0, f1, lw⟩ := C1.out _ (LK.out nq)
      have hz := hzz.out _ (LK.out nq)
      have HS := Lib.hid (put2_at e0 e1 (.int .i64 0) (.slice none 0 0))
      have LB := Lib.hid ((lw.setCell (p := ⟨w.heap.size + 1, 0, none⟩) (by simp) (.int .i64 0)).setCell (p := ⟨w.heap.size + 1, 1, none⟩) (by simp) (.slice none 0 0))
      clear lw
      go_wp2_with fail
      obtain ⟨d0, d1⟩ := HS.out
      exact bodyPost_ret (v := .tuple #[.agg #[.int .i64 0, .slice none 0 0], .bool false, .bool false]) (by simp [results, Try.results37, go_sem, d0, d1]) rfl ⟨.inl ⟨NO.out, rfl⟩, LB.out⟩
    rw [isPage_yes hp]
    by_cases hf1 : f ≤ 1
    case neg =>
      have NO := Lib.hid (show ¬ isCh F m i E from fun k => hf1 (HCH.out.1 k).2)
      have hf2 : (1 : Int) < (f : Int) := by omega
      clear hp hf1
      obtain ⟨c0, c1, e0, e1, f0, f1, lw⟩ := C1.out _ (LK.out nq)
      have hz := hzz.out _ (LK.out nq)
      have HS := Lib.hid (put2_at e0 e1 (.int .i64 0) (.slice none 0 0))
      have LB := Lib.hid ((lw.setCell (p := ⟨w.heap.size + 1, 0, none⟩) (by simp) (.int .i64 0)).setCell (p := ⟨w.heap.size + 1, 1, none⟩) (by simp) (.slice none 0 0))
      clear lw
      go_wp2_with fail
      obtain ⟨d0, d1⟩ := HS.out
      exact bodyPost_ret (v := .tuple #[.agg #[.int .i64 0, .slice none 0 0], .bool false, .bool false]) (by simp [results, Try.results37, go_sem, d0, d1]) rfl ⟨.inl ⟨NO.out, rfl⟩, LB.out⟩
    have YES := Lib.hid (HCH.out.2 ⟨hp, hf1⟩)
    have hf2 : ¬ (1 : Int) < (f : Int) := by omega
    have hfl := Lib.hid (show ((f : Int) == 1) = decide (flagN F = 1) by
      have e : flagN F = f := HF.out.symm
      rw [e]
      by_cases k : f = 1
      · subst k; rfl
      · rw [decide_eq_false k]; simp; omega)
    obtain ⟨c0, c1, e0, e1, f0, f1, lw⟩ := C1.out _ (LK.out nq)
    have hz := hzz.out _ (LK.out nq)
    have h9m : (9 : Int) ≤ ((m - 16 : Nat) : Int) := by omega
    have HS := Lib.hid (put2_at e0 e1 (.int .i64 P) (.slice (some ⟨bb, oo + 9, none⟩) (m - 16 - 9) (d - 9)))
    have LB := Lib.hid ((lw.setCell (p := ⟨w.heap.size + 1, 0, none⟩) (by simp) (.int .i64 P)).setCell (p := ⟨w.heap.size + 1, 1, none⟩) (by simp) (.slice (some ⟨bb, oo + 9, none⟩) (m - 16 - 9) (d - 9)))
    have HW := Lib.hid (put2_bytes (z := w.heap.size + 1) (y := oo + 7) ((HBT.out.below (below_drewN (Below.refl _ _) nq) (Nat.le_refl _)).cut 9 (m - 25) (by omega)) (.int .i64 P) (.slice (some ⟨bb, oo + 9, none⟩) (m - 16 - 9) (d - 9)))
    clear lw hp hf1
    go_wp2_with fail
    obtain ⟨d0, d1⟩ := HS.out
    have e25 : m - 16 - 9 = m - 25 := by omega
    refine bodyPost_ret (v := .tuple #[.agg #[.int .i64 P, .slice (some ⟨bb, oo + 9, none⟩) (m - 16 - 9) (d - 9)], .bool ((f : Int) == 1), .bool true]) (by simp [results, Try.results37, go_sem, d0, d1, HF.out]) rfl ⟨.inr ⟨YES.out, some ⟨bb, oo + 9, none⟩, d - 9, ?_, HW.out.congr fun i hi => ?_, by omega, by omega, (fun k => by cases k), fun b' o' e => by injection e with e; injection e with e1 e2; rw [← e1]; exact HD5.out⟩, LB.out⟩
    · rw [hfl.out, ← HP.out, e25]
    · show F (16 + (9 + i)) = F (25 + i)
      rw [show 16 + (9 + i) = 25 + i by omega]
end Go.Proofs.Ytdbfmllcapikkaa
/- A disk that is not there: what each call tells. -/
namespace Go.Proofs.Ytdbfmllcapikkaa
open Go.RowKit

theorem arm_nil (n : Int) (w : World) : Calls Try.prog 32 #[.pointer none, .int .i64 n] w fun e w' => e = .returned (.tuple #[]) ∧ w = w' := by
  go_enter Try.func32, Try.ntmps32
  go_wp2
  go_end0
  exact ⟨rfl, rfl⟩
theorem crash_nil (v : Value) (w : World) : Calls Try.prog 33 #[.pointer none, v] w fun e w' => e = .returned (.tuple #[]) ∧ w = w' := by
  go_enter Try.func33, Try.ntmps33
  go_wp2
  refine bodyPost_ret (results_none rfl _ _ _) rfl ?_
  exact ⟨rfl, rfl⟩
theorem reach_nil (n : Int) (w : World) : Calls Try.prog 41 #[.pointer none, .int .i64 n] w fun e w' => e = .returned (.int .i64 1) ∧ w = w' := by
  go_enter Try.func41, Try.ntmps41
  go_wp2
  go_ret
  exact ⟨rfl, rfl⟩
theorem read_nil (n : Int) (w : World) : Calls Try.prog 18 #[.pointer none, .int .i64 n] w fun e w' => e = .returned (.tuple #[.slice none 0 0, .int .i64 1]) ∧ w = w' := by
  go_enter Try.func18, Try.ntmps18
  go_wp2_with (go_at_call 41; refine (reach_nil _ _).mono ?_; rintro e w' ⟨rfl, rfl⟩)
  go_ret2
  exact ⟨rfl, rfl⟩
theorem write_nil (n : Int) (v : Value) (w : World) : Calls Try.prog 26 #[.pointer none, .int .i64 n, v] w fun e w' => e = .returned (.int .i64 1) ∧ w = w' := by
  go_enter Try.func26, Try.ntmps26
  go_wp2_with (go_at_call 41; refine (reach_nil _ _).mono ?_; rintro e w' ⟨rfl, rfl⟩)
  go_ret
  exact ⟨rfl, rfl⟩
theorem flush_nil (w : World) : Calls Try.prog 52 #[.pointer none] w fun e w' => e = .returned (.int .i64 1) ∧ w = w' := by
  go_enter Try.func52, Try.ntmps52
  go_wp2
  go_ret
  exact ⟨rfl, rfl⟩
theorem loose_nil (w : World) : Calls Try.prog 28 #[.pointer none] w fun e w' => e = .returned (.int .i64 0) ∧ w = w' := by
  go_enter Try.func28, Try.ntmps28
  go_wp2
  go_ret
  exact ⟨rfl, rfl⟩
theorem sectors_nil (w : World) : Calls Try.prog 56 #[.pointer none] w fun e w' => e = .returned (.int .i64 0) ∧ w = w' := by
  go_enter Try.func56, Try.ntmps56
  go_wp2
  go_ret
  exact ⟨rfl, rfl⟩
theorem size_nil (w : World) : Calls Try.prog 50 #[.pointer none] w fun e w' => e = .returned (.int .i64 0) ∧ w = w' := by
  go_enter Try.func50, Try.ntmps50
  go_wp2
  go_ret
  exact ⟨rfl, rfl⟩
theorem new_nil (n s : Int) (w : World) (h : n < 1 ∨ 1048576 < n ∨ s < 64 ∨ 4096 < s) : Calls Try.prog 10 #[.int .i64 n, .int .i64 s] w fun e w' => e = .returned (.pointer none) ∧ w = w' := by
  by_cases h1 : n < 1
  · clear h
    go_enter Try.func10, Try.ntmps10
    go_wp2
    go_ret
    exact ⟨rfl, rfl⟩
  · by_cases h2 : 1048576 < n
    · clear h
      go_enter Try.func10, Try.ntmps10
      go_wp2
      go_ret
      exact ⟨rfl, rfl⟩
    · by_cases h3 : s < 64
      · clear h
        go_enter Try.func10, Try.ntmps10
        go_wp2
        go_ret
        exact ⟨rfl, rfl⟩
      · have h4 : 4096 < s := by omega
        clear h
        go_enter Try.func10, Try.ntmps10
        go_wp2
        go_ret
        exact ⟨rfl, rfl⟩

/-- full: so many bytes of one kind. -/
def fullF (c m : Nat) (i : Nat) : Nat := if i < m then c else 0
end Go.Proofs.Ytdbfmllcapikkaa
/- What a disk is in memory: its struct, its two lists of sectors, its loose writes; read as plain data. -/
namespace Go.Proofs.Ytdbfmllcapikkaa
open Go.RowKit

/-- Which blocks the bytes of a disk's sectors may lie in. -/
class Spare where
  ok : Nat → Prop
def Bs [Spare] (base g : Nat) : Prop := base ≤ g ∧ Spare.ok g
/-- A sector's value: nil stands for bytes that are all 0; else a block of bytes of the call's own. -/
def SecV [Spare] (w : World) (base size : Nat) (v : Value) (F : Nat → Nat) : Prop :=
  (∀ i, i < size → F i < 256) ∧ ((v = .slice none 0 0 ∧ ∀ i, i < size → F i = 0) ∨
    ∃ g c cs, v = .slice (some ⟨g, 0, none⟩) size c ∧ size ≤ c ∧ c ≤ 9223372036854775807 ∧ Bs base g ∧ w.heap[g]? = some (.cells cs 5 (0, 0)) ∧ ∀ i, i < size → cs[i]? = some (.int .u8 (F i)))
/-- No block of bytes has turned. -/
def KeepB [Spare] (base : Nat) (w w' : World) : Prop := ∀ g cs, Bs base g → w.heap[g]? = some (.cells cs 5 (0, 0)) → w'.heap[g]? = some (.cells cs 5 (0, 0))
theorem KeepB.refl [Spare] (base : Nat) (w : World) : KeepB base w w := fun _ _ _ h => h
theorem KeepB.trans [Spare] {base : Nat} {a b c : World} (h : KeepB base a b) (k : KeepB base b c) : KeepB base a c := fun g cs hb hg => k g cs hb (h g cs hb hg)
theorem SecV.keep [Spare] {w w' : World} {base size : Nat} {v : Value} {F : Nat → Nat} (h : SecV w base size v F) (k : KeepB base w w') : SecV w' base size v F := by
  refine ⟨h.1, ?_⟩
  rcases h.2 with h2 | ⟨g, c, cs, h1, h2, h3, h4, h5, h6⟩
  · exact .inl h2
  · exact .inr ⟨g, c, cs, h1, h2, h3, h4, k g cs h4 h5, h6⟩

/-- A loose write's bytes: never nil. -/
def SecN [Spare] (w : World) (base size : Nat) (v : Value) (F : Nat → Nat) : Prop := SecV w base size v F ∧ v ≠ .slice none 0 0
theorem SecN.keep [Spare] {w w' : World} {base size : Nat} {v : Value} {F : Nat → Nat} (h : SecN w base size v F) (k : KeepB base w w') : SecN w' base size v F := ⟨h.1.keep k, h.2⟩

/-- A disk as plain data: a sector is a function on numbers. -/
structure DS where
  N : Nat
  size : Nat
  fast : Nat → Nat → Nat
  now : Nat → Nat → Nat
  loose : List (Nat × (Nat → Nat))
  armed : Nat
  down : Bool
/-- Where it lies: the struct's block, the two lists' blocks, the second one's room, the slice of loose writes. -/
structure DM where
  p : Nat
  bf : Nat
  bn : Nat
  cn : Nat
  vl : Value
def looseCells : List (Nat × (Nat → Nat)) → List Value → List Value
  | x :: r, v :: vs => .int .i64 (x.1 : Int) :: v :: looseCells r vs
  | _, _ => []
def diskCells (M : DM) (S : DS) : Array Value := #[.int .i64 (S.size : Int), .slice (some ⟨M.bf, 0, none⟩) S.N S.N, .slice (some ⟨M.bn, 0, none⟩) S.N M.cn, M.vl, .int .i64 (S.armed : Int), .bool S.down]
structure Dsk [Spare] (w : World) (base : Nat) (M : DM) (S : DS) : Prop where
  hp : w.heap[M.p]? = some (.cells (diskCells M S) 78 (0, 0))
  bp : base ≤ M.p
  vf : ∃ V : Nat → Value, w.rowIs M.bf 42 S.N V ∧ ∀ i, i < S.N → SecV w base S.size (V i) (S.fast i)
  vn : ∃ V : Nat → Value, w.rowIs M.bn 42 M.cn V ∧ ∀ i, i < S.N → SecV w base S.size (V i) (S.now i)
  bfn : M.bf ≠ M.bn
  bbf : base ≤ M.bf
  bbn : base ≤ M.bn
  lo : ∃ vs : List Value, vs.length = S.loose.length ∧ w.ownsRow base 111 2 M.vl S.loose.length (looseCells S.loose vs) ∧ ∀ (j : Nat) (v : Value) (x : Nat × (Nat → Nat)), vs[j]? = some v → S.loose[j]? = some x → x.1 < S.N ∧ SecN w base S.size v x.2
  hN : 1 ≤ S.N ∧ S.N ≤ 1048576
  hS : 64 ≤ S.size ∧ S.size ≤ 4096
  hA : S.armed ≤ 9223372036854775807
  hL : S.loose.length ≤ 1000000
  hC : S.N ≤ M.cn ∧ M.cn ≤ 9223372036854775807
  hE : ∀ g, w.heap.size ≤ g → Spare.ok g

theorem size_set (w : World) (a : Addr) (v : Value) : (w.setCell a v).heap.size = w.heap.size := by simp [World.setCell]
theorem type_ne {w : World} {a b : Nat} {cs ds : Array Value} {t u : TypeId} (h : w.heap[a]? = some (.cells cs t (0, 0))) (k : w.heap[b]? = some (.cells ds u (0, 0))) (hne : t ≠ u) : a ≠ b := by
  rintro rfl
  rw [h] at k
  injection k with k
  injection k with _ k
  exact hne k

section
variable {w w' : World} {base : Nat} {M : DM} {S : DS}
theorem Dsk.cell [Spare] (h : Dsk w base M S) (i : Nat) : w.cell? ⟨M.p, i, none⟩ = (diskCells M S)[i]? := cell_of_row w M.p i _ _ _ h.hp
theorem Dsk.frozen [Spare] (h : Dsk w base M S) (i : Nat) : w.frozen? ⟨M.p, i, none⟩ = false := by simp [World.frozen?, h.hp]
theorem Dsk.c0 [Spare] (h : Dsk w base M S) : w.cell? ⟨M.p, 0, none⟩ = some (.int .i64 (S.size : Int)) := h.cell 0
theorem Dsk.c1 [Spare] (h : Dsk w base M S) : w.cell? ⟨M.p, 1, none⟩ = some (.slice (some ⟨M.bf, 0, none⟩) S.N S.N) := h.cell 1
theorem Dsk.c2 [Spare] (h : Dsk w base M S) : w.cell? ⟨M.p, 2, none⟩ = some (.slice (some ⟨M.bn, 0, none⟩) S.N M.cn) := h.cell 2
theorem Dsk.c3 [Spare] (h : Dsk w base M S) : w.cell? ⟨M.p, 3, none⟩ = some M.vl := h.cell 3
theorem Dsk.c4 [Spare] (h : Dsk w base M S) : w.cell? ⟨M.p, 4, none⟩ = some (.int .i64 (S.armed : Int)) := h.cell 4
theorem Dsk.c5 [Spare] (h : Dsk w base M S) : w.cell? ⟨M.p, 5, none⟩ = some (.bool S.down) := h.cell 5

/-- What does not turn the disk's own four blocks, nor bytes, leaves the disk as it is. -/
theorem Dsk.keep [Spare] (h : Dsk w base M S) (hp : w'.heap[M.p]? = w.heap[M.p]?) (hf : w'.heap[M.bf]? = w.heap[M.bf]?) (hn : w'.heap[M.bn]? = w.heap[M.bn]?) (hv : ∀ k, M.vl.ownBlock = some k → w'.heap[k]? = w.heap[k]?) (hb : KeepB base w w') (hz : w.heap.size ≤ w'.heap.size) : Dsk w' base M S := by
  obtain ⟨V, v1, v2⟩ := h.vf
  obtain ⟨U, u1, u2⟩ := h.vn
  obtain ⟨vs, l1, l2, l3⟩ := h.lo
  refine ⟨hp.trans h.hp, h.bp, ⟨V, v1.of_block hf, fun i hi => (v2 i hi).keep hb⟩, ⟨U, u1.of_block hn, fun i hi => (u2 i hi).keep hb⟩, h.bfn, h.bbf, h.bbn, ⟨vs, l1, ?_, fun j v x hj hx => ⟨(l3 j v x hj hx).1, (l3 j v x hj hx).2.keep hb⟩⟩, h.hN, h.hS, h.hA, h.hL, h.hC, fun g hg => h.hE g (Nat.le_trans hz hg)⟩
  refine ⟨l2.1, ?_⟩
  rcases l2.2 with h2 | ⟨g, cap, cur, e1, e2, e3, e4⟩
  · exact .inl h2
  · exact .inr ⟨g, cap, cur, e1, e2, (hv g (by rw [e1]; rfl)).trans e3, e4⟩
theorem Dsk.below [Spare] (h : Dsk w base M S) (hb : Below w.heap.size w w') : Dsk w' base M S := by
  have lt : ∀ {k : Nat} {o : Obj}, w.heap[k]? = some o → k < w.heap.size := fun e => (Array.getElem?_eq_some_iff.1 e).1
  obtain ⟨V, v1, _⟩ := h.vf
  obtain ⟨U, u1, _⟩ := h.vn
  obtain ⟨vs, _, l2, _⟩ := h.lo
  exact h.keep (hb.block _ (lt h.hp)) (hb.block _ v1.lt) (hb.block _ u1.lt) (fun k hk => hb.block _ (l2.lt k hk).2) (fun g cs _ hg => (hb.block g (lt hg)).trans hg) hb.size

/-- A store into the struct: armed, down. -/
theorem heap_store (w : World) (g i : Nat) (v : Value) (cs : Array Value) (t : TypeId) (h : w.heap[g]? = some (.cells cs t (0, 0))) : (w.setCell ⟨g, i, none⟩ v).heap[g]? = some (.cells (cs.setIfInBounds i v) t (0, 0)) := by
  simp [World.setCell, Array.getElem?_modify, h]
theorem keepB_store [Spare] {w : World} {base g i : Nat} {v : Value} {cs : Array Value} {t : TypeId} (h : w.heap[g]? = some (.cells cs t (0, 0))) (ht : t ≠ 5) : KeepB base w (w.setCell ⟨g, i, none⟩ v) := fun k ds _ hk => by
  have hne : k ≠ g := type_ne hk h (fun e => ht e.symm)
  rw [Below.heap_setCell w ⟨g, i, none⟩ v k hne]
  exact hk
theorem Dsk.store [Spare] (h : Dsk w base M S) (i : Nat) (v : Value) (S' : DS) (hc : (diskCells M S).setIfInBounds i v = diskCells M S') (e1 : S'.N = S.N) (e2 : S'.size = S.size) (e3 : S'.fast = S.fast) (e4 : S'.now = S.now) (e5 : S'.loose = S.loose) (hA : S'.armed ≤ 9223372036854775807) :
    Dsk (w.setCell ⟨M.p, i, none⟩ v) base M S' := by
  obtain ⟨V, v1, v2⟩ := h.vf
  obtain ⟨U, u1, u2⟩ := h.vn
  obtain ⟨vs, l1, l2, l3⟩ := h.lo
  have hb : KeepB base w (w.setCell ⟨M.p, i, none⟩ v) := keepB_store h.hp (by decide)
  have nf : M.bf ≠ M.p := by obtain ⟨c, hc, _⟩ := v1; exact type_ne hc h.hp (by decide)
  have nn : M.bn ≠ M.p := by obtain ⟨c, hc, _⟩ := u1; exact type_ne hc h.hp (by decide)
  refine ⟨?_, h.bp, ⟨V, ?_, fun j hj => ?_⟩, ⟨U, ?_, fun j hj => ?_⟩, h.bfn, h.bbf, h.bbn, ⟨vs, ?_, ?_, fun j u x hj hx => ?_⟩, by rw [e1]; exact h.hN, by rw [e2]; exact h.hS, hA, by rw [e5]; exact h.hL, by rw [e1]; exact h.hC, fun g hg => h.hE g (by rw [← size_set w ⟨M.p, i, none⟩ v]; exact hg)⟩
  · rw [← hc]; exact heap_store w _ _ _ _ _ h.hp
  · rw [e1]; exact v1.setOther nf v
  · rw [e2, e3]; exact (v2 j (by rw [← e1]; exact hj)).keep hb
  · exact u1.setOther nn v
  · rw [e2, e4]; exact (u2 j (by rw [← e1]; exact hj)).keep hb
  · rw [e5]; exact l1
  · rw [e5]
    refine ⟨l2.1, ?_⟩
    rcases l2.2 with h2 | ⟨g, cap, cur, a1, a2, a3, a4⟩
    · exact .inl h2
    · have ng : g ≠ M.p := type_ne a3 h.hp (by decide)
      exact .inr ⟨g, cap, cur, a1, a2, (Below.heap_setCell w ⟨M.p, i, none⟩ v g ng).trans a3, a4⟩
  · rw [e5] at hx
    rw [e1, e2]
    exact ⟨(l3 j u x hj hx).1, (l3 j u x hj hx).2.keep hb⟩
end

/-- Only the disk's own blocks have turned, and what is new. -/
structure Turns (base : Nat) (M : DM) (w w' : World) : Prop where
  os : w'.os = w.os
  tape : w'.tape = w.tape
  output : w'.output = w.output
  size : w.heap.size ≤ w'.heap.size
  block : ∀ k, k < w.heap.size → k ≠ M.p → k ≠ M.bf → k ≠ M.bn → M.vl.ownBlock ≠ some k → w'.heap[k]? = w.heap[k]?
theorem Turns.refl (base : Nat) (M : DM) (w : World) : Turns base M w w := ⟨rfl, rfl, rfl, Nat.le_refl _, fun _ _ _ _ _ _ => rfl⟩
theorem Turns.trans {base : Nat} {M : DM} {a b c : World} (h : Turns base M a b) (k : Turns base M b c) : Turns base M a c :=
  ⟨k.os.trans h.os, k.tape.trans h.tape, k.output.trans h.output, Nat.le_trans h.size k.size, fun i hi e1 e2 e3 e4 => (k.block i (Nat.lt_of_lt_of_le hi h.size) e1 e2 e3 e4).trans (h.block i hi e1 e2 e3 e4)⟩
theorem Turns.of_below {base : Nat} {M : DM} {w w' : World} (h : Below w.heap.size w w') : Turns base M w w' := ⟨h.os, h.tape, h.output, h.size, fun k hk _ _ _ _ => h.block k hk⟩
theorem Turns.store {base : Nat} {M : DM} (w : World) (i : Nat) (v : Value) : Turns base M w (w.setCell ⟨M.p, i, none⟩ v) :=
  ⟨rfl, rfl, rfl, by simp [World.setCell], fun k _ hk _ _ _ => Below.heap_setCell w ⟨M.p, i, none⟩ v k hk⟩
end Go.Proofs.Ytdbfmllcapikkaa
