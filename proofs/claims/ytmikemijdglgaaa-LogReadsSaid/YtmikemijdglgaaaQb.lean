/- Merged texts: FBuild, FAppend, FBytes, FSec, FOk, FApart, FRefBuild, FAwake, FLawChecks, FStr. -/
import Derived.Test.YtmikemijdglgaaaQa
import Derived.Laws.AppendOwnNone
import Derived.Lib.SlBytesConst
import Derived.OpenShut
import Derived.Laws.BytesArg
/- The contract of Build. -/
namespace Go.Proofs.Ytmikemijdglgaaa
open Go.RowKit

/-- What a sector's bytes are, as Build lays them. -/
def bodyF (mark n : Nat) (F : Nat → Nat) : Nat → Nat := copyF (pairF zeroF 0 mark) 16 n F
def secF (m mark n : Nat) (F : Nat → Nat) : Nat → Nat := pairF (putF (bodyF mark n F) m 4 (crc (bodyF mark n F) m)) (m + 4) mark

theorem u8info : (Try.prog.info? 5).map (fun i => (i.zero, i.size, i.bytes)) = some (some (.int .u8 0), 1, 1) := by kernel_rfl
theorem u8size : (Try.prog.info? 5).map (·.size) = some 1 := by kernel_rfl

theorem parts_at (b o n m c : Nat) (w : World) (h1 : m + 20 ≤ n) (h2 : n ≤ m + 20) (hc : n ≤ c) (hm : c ≤ 9223372036854775807) :
    Calls Try.prog 69 #[.slice (some ⟨b, o, none⟩) n c] w fun e w' =>
      e = .returned (.tuple #[.slice (some ⟨b, o, none⟩) m m, .slice (some ⟨b, o + m, none⟩) 4 4, .slice (some ⟨b, o + (m + 4), none⟩) 16 (c - (m + 4))]) ∧ ∃ q, w.drewN q = w' := by
  obtain rfl : n = m + 20 := by omega
  exact parts_any b o m c w hc hm

set_option maxHeartbeats 1000000 in
theorem build_ok (size m mark n c : Nat) (A : Option Addr) (F : Nat → Nat) (w : World) (h1 : m + 20 ≤ size) (h2 : size ≤ m + 20) (h44 : 44 ≤ m) (hm : m ≤ 4076) (hk1 : 1 ≤ mark) (hk2 : mark ≤ 4611686018427387904) (hn : 16 + n ≤ m) (hb : Bytes w A n F) :
    Calls Try.prog 61 #[.int .i64 size, .int .i64 mark, .slice A n c] w fun e w' =>
      e = .returned (.tuple #[.slice (some ⟨w.heap.size, 0, none⟩) size size, .int .i64 0]) ∧ BRow w' w.heap.size size (secF m mark n F) ∧ Below w.heap.size w w' := by
  have hT : fitsB (size : Int) = true := fitsB_t (by omega) (by omega)
  have hR : roomI (size : Int) = (m : Int) - 16 := by unfold roomI; rw [if_pos (by omega)]; omega
  have HT := Lib.hid hT
  have HR := Lib.hid hR
  clear hT hR
  have hmk := run_make_row' (P := Try.prog) 42 5 (.int .u8 0) 1 Try.underlying42 u8info rfl .i64 .i64 size (by omega) (by omega)
  have hbl : n ≤ 9223372036854775807 := by omega
  go_enter Try.func61, Try.ntmps61
  go_wp2_with fail
  refine (fits_any _ _).mono ?_
  rintro e w' ⟨rfl, rfl⟩
  rw [HT.out]
  go_wp2_with fail
  refine (room_any _ _ (by omega) (by omega)).mono ?_
  rintro e w' ⟨rfl, rfl⟩
  rw [HR.out]
  go_wp2_with fail
  refine (parts_at _ _ _ m _ _ h1 h2 (Nat.le_refl _) (by omega)).mono ?_
  rintro e w' ⟨rfl, q, rfl⟩
  have b0 := (BRow.made w size (by omega)).drewN q
  have l0 := below_drewN ((Below.refl w.heap.size w).alloc (Nat.le_refl _) (.cells (madeCells #[.int .u8 0] size) 5)) q
  generalize World.drewN (w.alloc (.cells (madeCells #[.int .u8 0] size) 5)) q = W0 at *
  clear hmk
  go_wp2_with fail
  refine (putPair_any _ 0 m m size mark zeroF W0 b0 (by omega) (by omega) (by omega) (by omega)).mono ?_
  rintro e W1 ⟨rfl, b1, g1⟩
  have l1 := l0.grown g1 l0.size (by rintro k ⟨⟩; exact Nat.le_refl _)
  have s1 := hb.below l1 (Nat.le_refl _)
  clear b0 g1 l0
  go_wp2_with (with_reducible refine wpList_copy_bytes rfl _ _ 42 42 rfl Try.underlying42 u8size _ _ _ _ _ _ rfl rfl w.heap.size 16 size n _ F b1 s1 ?d1 ?d2 ?d3 ?d4)
  case d1 => exact (Nat.min_eq_left (by omega)).symm
  case d3 => omega
  case d4 =>
    intro W2 b2 g2
    have l2 := l1.grown g2 l1.size (by rintro k ⟨⟩; exact Nat.le_refl _)
    have b2' : BRow W2 w.heap.size size (bodyF mark n F) := b2
    clear b1 g2 l1 s1 b2
    go_wp2_with fail
    refine (check_any _ m _ (bodyF mark n F) W2 ((b2'.bytes (o := 0) (m := m) (by omega)).congr fun i _ => by rw [Nat.zero_add])).mono ?_
    rintro e W3 ⟨rfl, rfl⟩
    go_wp2_with fail
    refine (put32_any _ m 4 _ size _ _ _ b2' (by omega) (by omega)).mono ?_
    rintro e W3 ⟨rfl, b3, g3⟩
    have l3 := l2.grown g3 l2.size (by rintro k ⟨⟩; exact Nat.le_refl _)
    clear b2' g3 l2
    go_wp2_with fail
    refine (putPair_any _ (m + 4) 16 _ size mark _ _ b3 (by omega) (by omega) (by omega) (by omega)).mono ?_
    rintro e W4 ⟨rfl, b4, g4⟩
    have l4 := l3.grown g4 l3.size (by rintro k ⟨⟩; exact Nat.le_refl _)
    clear b3 g4 l3
    go_wp2
    go_ret2
    exact ⟨rfl, b4, l4⟩
  all_goals exact fun _ => rfl

theorem build_size (size mark : Int) (A : Option Addr) (n c : Nat) (w : World) (h : size < 64 ∨ 4096 < size) :
    Calls Try.prog 61 #[.int .i64 size, .int .i64 mark, .slice A n c] w fun e w' => e = .returned (.tuple #[.slice none 0 0, .int .i64 3]) ∧ w = w' := by
  have HT := Lib.hid (fitsB_f h)
  clear h
  go_enter Try.func61, Try.ntmps61
  go_wp2_with fail
  refine (fits_any _ _).mono ?_
  rintro e w' ⟨rfl, rfl⟩
  rw [HT.out]
  go_wp2
  go_ret2
  exact ⟨rfl, rfl⟩

theorem build_mark (size mark : Int) (A : Option Addr) (n c : Nat) (w : World) (h1 : 64 ≤ size) (h2 : size ≤ 4096) (h : mark < 1 ∨ 4611686018427387904 < mark) :
    Calls Try.prog 61 #[.int .i64 size, .int .i64 mark, .slice A n c] w fun e w' => e = .returned (.tuple #[.slice none 0 0, .int .i64 2]) ∧ w = w' := by
  have HT := Lib.hid (fitsB_t h1 h2)
  by_cases hm : mark < 1
  all_goals
    have hq : mark < 1 ∨ 4611686018427387904 < mark := h
    clear h
    go_enter Try.func61, Try.ntmps61
    go_wp2_with fail
    refine (fits_any _ _).mono ?_
    rintro e w' ⟨rfl, rfl⟩
    rw [HT.out]
    go_wp2
    go_ret2
    exact ⟨rfl, rfl⟩

theorem build_long (size mark : Int) (A : Option Addr) (n c : Nat) (w : World) (h1 : 64 ≤ size) (h2 : size ≤ 4096) (h3 : 1 ≤ mark) (h4 : mark ≤ 4611686018427387904) (hn : size - 36 < n) (_hn2 : n ≤ 9223372036854775807) :
    Calls Try.prog 61 #[.int .i64 size, .int .i64 mark, .slice A n c] w fun e w' => e = .returned (.tuple #[.slice none 0 0, .int .i64 9]) ∧ w = w' := by
  have HT := Lib.hid (fitsB_t h1 h2)
  have hR : roomI size = size - 36 := by unfold roomI; rw [if_pos (by omega)]
  have HR := Lib.hid hR
  clear hR
  go_enter Try.func61, Try.ntmps61
  go_wp2_with fail
  refine (fits_any _ _).mono ?_
  rintro e w' ⟨rfl, rfl⟩
  rw [HT.out]
  go_wp2_with fail
  refine (room_any _ _ (by omega) (by omega)).mono ?_
  rintro e w' ⟨rfl, rfl⟩
  rw [HR.out]
  go_wp2
  go_ret2
  exact ⟨rfl, rfl⟩
end Go.Proofs.Ytmikemijdglgaaa
/- (frame_on_mem.py: its declarations are wip/mem's.) -/
/- The contract of the document's Bytes. -/
namespace Go.Proofs.Ytmikemijdglgaaa
open Go.RowKit

/-- A number's bytes, the lowest first. -/
def leF (v : Nat) (i : Nat) : Nat := v / 256 ^ i % 256
theorem leF_lt (v i : Nat) : leF v i < 256 := Nat.mod_lt _ (by omega)

set_option maxHeartbeats 1000000 in
theorem refBytes_any (v many : Nat) (w : World) (hv : v ≤ 4611686018427387904) (hm : many ≤ 8) :
    Calls Try.prog 43 #[.int .i64 v, .int .i64 many] w fun e w' =>
      ∃ A c, e = .returned (.slice A many c) ∧ OwnB w' w.heap.size A many c (leF v) ∧ Below w.heap.size w w' := by
  go_enter Try.func43, Try.ntmps43
  go_wp2
  go_loopw [0, 5, 6] (fun t o i wr => ∃ (k : Nat) (A : Option Addr) (c : Nat), k ≤ many ∧ t = .int .i64 (v / 256 ^ k : Nat) ∧ i = .int .i64 k ∧ o = .slice A k c ∧ OwnB wr w.heap.size A k c (leF v) ∧ Below w.heap.size w wr) (fun _ _ i _ => many - (intOf i).toNat)
  case atStart => exact ⟨0, none, 0, Nat.zero_le _, by simp, rfl, rfl, OwnB.none_ w _ _, Below.refl _ _⟩
  case round =>
    obtain ⟨k, A, c, hk, rfl, rfl, rfl, ho, hl⟩ := hrel
    by_cases hlt : k < many
    · have hx : v / 256 ^ k ≤ v := Nat.div_le_self _ _
      have hd : v / 256 ^ k / 256 = v / 256 ^ (k + 1) := by rw [Nat.pow_succ, Nat.div_div_eq_div_mul]
      have hF : ∀ i, i < k + 1 → pushF (leF v) k (((v / 256 ^ k : Nat) : Int) % 256).toNat i = leF v i := fun i hi => by
        unfold pushF leF
        split
        · rfl
        · obtain rfl : i = k := by omega
          omega
      obtain ⟨x, hxx⟩ : ∃ x, x = v / 256 ^ k := ⟨_, rfl⟩
      rw [← hxx] at hx hd hF ⊢
      have HD := Lib.hid hd
      have HF := Lib.hid hF
      have HO := Lib.hid ho
      clear hxx hd hF ho
      have hs := hl.size
      go_wp2_with (at_builtin; with_reducible refine wpList_push wr rfl _ _ 42 rfl Try.underlying42 u8infoAll w.heap.size _ _ _ _ rfl HO.out _ rfl ?d1 ?d2 ?d3 hs ?d4)
      case d1 => omega
      case d2 => omega
      case d3 => omega
      case d4 =>
        intro A1 c1 w1 o1 l1
        have o2 := o1.congr HF.out
        have l2 := hl.trans l1
        clear o1 l1 HO
        go_wp2
        go_roundw
        case rel => exact ⟨k + 1, A1, c1, by omega, by rw [← HD.out]; go_num, by go_num, rfl, o2, l2⟩
        case measure => simp [intOf]; omega
    · obtain rfl : k = many := by omega
      go_wp2
      go_ret
      exact ⟨A, c, rfl, ho, hl⟩
end Go.Proofs.Ytmikemijdglgaaa
/- The bytes of a sector, in the document's own order, are those that Build lays. -/
namespace Go.Proofs.Ytmikemijdglgaaa

theorem not_byte {v : Nat} (h : v < 18446744073709551616) {i : Nat} (hi : i < 8) : (18446744073709551615 - v) / 256 ^ i % 256 = 255 - v / 256 ^ i % 256 := by
  rcases i with _ | _ | _ | _ | _ | _ | _ | _ | i
  · simp; omega
  · simp; omega
  · simp; omega
  · simp; omega
  · simp; omega
  · simp; omega
  · simp; omega
  · simp; omega
  · omega

/-- The first sixteen bytes. -/
def headF (mark : Nat) (i : Nat) : Nat := if i < 8 then leF mark i else 255 - leF mark (i - 8)
def padF (mark n : Nat) (F : Nat → Nat) (i : Nat) : Nat := if i < 16 + n then catF (headF mark) 16 F i else 0
def sumF (m mark n : Nat) (F : Nat → Nat) : Nat → Nat := catF (padF mark n F) m (leF (crc (padF mark n F) m))
def refF (m mark n : Nat) (F : Nat → Nat) : Nat → Nat := catF (sumF m mark n F) (m + 4) (sumF m mark n F)

theorem pairF_at {G : Nat → Nat} {off v i : Nat} (hv : v < 18446744073709551616) : pairF G off v i = if off ≤ i ∧ i < off + 16 then headF v (i - off) else G i := by
  unfold pairF putF headF leF
  by_cases h1 : off + 8 ≤ i ∧ i < off + 8 + 8
  · have hk : i - (off + 8) < 8 := by omega
    rw [if_pos h1, if_pos (by omega), if_neg (by omega), not_byte hv hk]
    have e : i - off - 8 = i - (off + 8) := by omega
    rw [e]
  · rw [if_neg h1]
    by_cases h2 : off ≤ i ∧ i < off + 8
    · rw [if_pos h2, if_pos (by omega), if_pos (by omega)]
    · rw [if_neg h2, if_neg (by omega)]

theorem pad_body {mark n : Nat} {F : Nat → Nat} (hv : mark < 18446744073709551616) (i : Nat) : padF mark n F i = bodyF mark n F i := by
  unfold padF bodyF catF copyF
  rw [pairF_at hv]
  by_cases h1 : i < 16
  · rw [if_pos (by omega), if_pos h1, if_neg (by omega), if_pos (by omega), Nat.sub_zero]
  · by_cases h2 : i < 16 + n
    · rw [if_pos h2, if_neg h1, if_pos (by omega)]
    · rw [if_neg h2, if_neg (by omega), if_neg (by omega)]
      rfl

theorem ref_sec {m mark n : Nat} {F : Nat → Nat} (hm : 16 ≤ m) (hv : mark < 18446744073709551616) {i : Nat} (hi : i < m + 20) : refF m mark n F i = secF m mark n F i := by
  have hc : crc (padF mark n F) m = crc (bodyF mark n F) m := crc_congr fun i _ => pad_body hv i
  unfold refF secF
  rw [pairF_at hv]
  unfold sumF
  rw [hc]
  by_cases h1 : i < m + 4
  · unfold catF putF leF
    rw [if_pos h1, if_neg (show ¬ (m + 4 ≤ i ∧ i < m + 4 + 16) by omega)]
    by_cases h2 : i < m
    · rw [if_pos h2, if_neg (by omega)]
      exact pad_body hv i
    · rw [if_neg h2, if_pos (by omega)]
  · have e : i - (m + 4) < 16 := by omega
    rw [if_pos (by omega)]
    unfold catF
    rw [if_neg h1, if_pos (by omega)]
    unfold padF catF
    rw [if_pos (by omega), if_pos e]
end Go.Proofs.Ytmikemijdglgaaa
/- When bytes are a sector: the program's conditions, and the document's. -/
namespace Go.Proofs.Ytmikemijdglgaaa

theorem leTo_leF (v : Nat) : ∀ n, leTo (leF v) n = v % 256 ^ n
  | 0 => by simp [leTo, Nat.mod_one]
  | n + 1 => by
    rw [leTo, leTo_leF v n, leF, Nat.pow_succ, Nat.mod_mul, Nat.mul_comm]
theorem leTo_digit {F : Nat → Nat} : ∀ {n i : Nat}, (∀ i, i < n → F i < 256) → i < n → leF (leTo F n) i = F i
  | 0, _, _, h => absurd h (by omega)
  | n + 1, i, hF, hi => by
    have h1 := leTo_lt (F := F) (n := n) fun i hi => hF i (by omega)
    unfold leF
    rw [leTo]
    rcases Nat.lt_or_ge i n with h | h
    · have ih := leTo_digit (F := F) (n := n) (i := i) (fun i hi => hF i (by omega)) h
      unfold leF at ih
      have e : F n * 256 ^ n = 256 ^ i * (256 * (F n * 256 ^ (n - i - 1))) := by
        have e2 : (256 : Nat) ^ n = 256 ^ i * (256 * 256 ^ (n - i - 1)) := by
          rw [← Nat.pow_succ', ← Nat.pow_add]
          congr 1
          omega
        rw [e2]
        simp only [Nat.mul_left_comm]
      rw [e, Nat.add_mul_div_left _ _ (Nat.pow_pos (by omega)), Nat.add_mul_mod_self_left]
      exact ih
    · obtain rfl : i = n := by omega
      have hp : 0 < (256 : Nat) ^ i := Nat.pow_pos (by omega)
      rw [Nat.add_mul_div_right _ _ hp, Nat.div_eq_of_lt h1, Nat.zero_add]
      exact Nat.mod_eq_of_lt (hF i (by omega))
theorem leTo_eq {F : Nat → Nat} {n v : Nat} (hv : v < 256 ^ n) (h : ∀ i, i < n → F i = leF v i) : leTo F n = v := by
  rw [leTo_congr h, leTo_leF, Nat.mod_eq_of_lt hv]

/-- What the program asks of a sector's bytes (m: where the check stands). -/
def okP (F : Nat → Nat) (m : Nat) : Prop :=
  (1 ≤ leTo F 8 ∧ leTo F 8 ≤ 4611686018427387904) ∧ pairB F (leTo F 8) = true ∧ pairB (fun i => F (m + 4 + i)) (leTo F 8) = true ∧ leTo (fun i => F (m + i)) 4 = crc F m
/-- What the document asks: it is the sector of its own mark and load. -/
def secP (F : Nat → Nat) (m : Nat) : Prop :=
  (1 ≤ leTo F 8 ∧ leTo F 8 ≤ 4611686018427387904) ∧ ∀ i, i < m + 20 → secF m (leTo F 8) (m - 16) (fun j => F (16 + j)) i = F i

theorem pair_head {G : Nat → Nat} {v : Nat} (hv : v < 18446744073709551616) (hG : ∀ i, i < 16 → G i < 256) : pairB G v = true ↔ ∀ i, i < 16 → headF v i = G i := by
  have e8 : (256 : Nat) ^ 8 = 18446744073709551616 := by decide
  constructor
  · intro h i hi
    obtain ⟨h1, h2⟩ := of_decide_eq_true h
    unfold headF
    by_cases h8 : i < 8
    · rw [if_pos h8, ← h1]
      exact leTo_digit (n := 8) (fun i hi => hG i (by omega)) h8
    · rw [if_neg h8]
      have h3 := leTo_digit (F := fun i => G (8 + i)) (n := 8) (i := i - 8) (fun i hi => hG _ (by omega)) (by omega)
      rw [h2] at h3
      have e : 8 + (i - 8) = i := by omega
      simp only [e] at h3
      rw [← h3]
      unfold leF
      rw [not_byte hv (by omega)]
  · intro h
    refine decide_eq_true ⟨leTo_eq (by rw [e8]; exact hv) fun i hi => ?_, leTo_eq (by rw [e8]; omega) fun i hi => ?_⟩
    · rw [← h i (by omega)]
      unfold headF
      rw [if_pos hi]
    · show G (8 + i) = _
      rw [← h (8 + i) (by omega)]
      unfold headF leF
      rw [if_neg (by omega), not_byte hv hi, Nat.add_sub_cancel_left]

theorem secF_head {m v n : Nat} {G : Nat → Nat} (hv : v < 18446744073709551616) (hm : 16 ≤ m) {i : Nat} (hi : i < 16) : secF m v n G i = headF v i := by
  unfold secF
  rw [pairF_at hv, if_neg (by omega)]
  unfold putF
  rw [if_neg (by omega)]
  unfold bodyF copyF
  rw [if_neg (by omega), pairF_at hv, if_pos (by omega), Nat.sub_zero]
theorem secF_load {m v n : Nat} {G : Nat → Nat} (hv : v < 18446744073709551616) {i : Nat} (h1 : 16 ≤ i) (h2 : i < 16 + n) (h3 : i < m) : secF m v n G i = G (i - 16) := by
  unfold secF
  rw [pairF_at hv, if_neg (by omega)]
  unfold putF
  rw [if_neg (by omega)]
  unfold bodyF copyF
  rw [if_pos (by omega)]
theorem secF_zero {m v n : Nat} {G : Nat → Nat} (hv : v < 18446744073709551616) {i : Nat} (h1 : 16 + n ≤ i) (h3 : i < m) : secF m v n G i = 0 := by
  unfold secF
  rw [pairF_at hv, if_neg (by omega)]
  unfold putF
  rw [if_neg (by omega)]
  unfold bodyF copyF
  rw [if_neg (by omega), pairF_at hv, if_neg (by omega)]
  rfl
theorem secF_body {m v n : Nat} {G : Nat → Nat} (hv : v < 18446744073709551616) {i : Nat} (h3 : i < m) : secF m v n G i = bodyF v n G i := by
  unfold secF
  rw [pairF_at hv, if_neg (by omega)]
  unfold putF
  rw [if_neg (by omega)]
theorem secF_sum {m v n : Nat} {G : Nat → Nat} (hv : v < 18446744073709551616) {i : Nat} (h : i < 4) : secF m v n G (m + i) = leF (crc (bodyF v n G) m) i := by
  unfold secF
  rw [pairF_at hv, if_neg (by omega)]
  unfold putF leF
  rw [if_pos (by omega), Nat.add_sub_cancel_left]
theorem secF_tail {m v n : Nat} {G : Nat → Nat} (hv : v < 18446744073709551616) {i : Nat} (h : i < 16) : secF m v n G (m + 4 + i) = headF v i := by
  unfold secF
  rw [pairF_at hv, if_pos (by omega), Nat.add_sub_cancel_left]

theorem ok_iff {F : Nat → Nat} {m : Nat} (hm : 44 ≤ m) (hF : ∀ i, i < m + 20 → F i < 256) : okP F m ↔ secP F m := by
  unfold okP secP
  refine and_congr_right fun ⟨_, hv2⟩ => ?_
  generalize hvv : leTo F 8 = v at *
  have hv : v < 18446744073709551616 := by omega
  have e4 : (256 : Nat) ^ 4 = 4294967296 := by decide
  rw [pair_head hv fun i hi => hF i (by omega), pair_head hv fun i hi => hF _ (by omega)]
  constructor
  · rintro ⟨p1, p2, p3⟩ i hi
    have hbody : ∀ j, j < m → bodyF v (m - 16) (fun j => F (16 + j)) j = F j := fun j hj => by
      rw [← secF_body hv hj]
      by_cases h16 : j < 16
      · rw [secF_head hv (by omega) h16]
        exact p1 j h16
      · rw [secF_load hv (by omega) (by omega) hj]
        show F (16 + (j - 16)) = F j
        congr 1
        omega
    by_cases h1 : i < m
    · rw [secF_body hv h1]
      exact hbody i h1
    · by_cases h2 : i < m + 4
      · obtain ⟨k, rfl⟩ : ∃ k, i = m + k := ⟨i - m, by omega⟩
        rw [secF_sum hv (by omega), crc_congr hbody, ← p3]
        exact leTo_digit (F := fun i => F (m + i)) (n := 4) (fun i hi => hF _ (by omega)) (by omega)
      · obtain ⟨k, rfl⟩ : ∃ k, i = m + 4 + k := ⟨i - (m + 4), by omega⟩
        rw [secF_tail hv (by omega)]
        exact p2 k (by omega)
  · intro h
    refine ⟨fun i hi => ?_, fun i hi => ?_, leTo_eq (by rw [e4]; exact crc_lt _ _) fun i hi => ?_⟩
    · rw [← h i (by omega), secF_head hv (by omega) hi]
    · rw [← h (m + 4 + i) (by omega), secF_tail hv hi]
    · show F (m + i) = _
      rw [← h (m + i) (by omega), secF_sum hv hi, crc_congr fun j hj => ?_]
      rw [← secF_body hv hj]
      exact h j (by omega)
end Go.Proofs.Ytmikemijdglgaaa
/- The contracts of apart, and of the document's check. -/
namespace Go.Proofs.Ytmikemijdglgaaa
open Go.RowKit

set_option maxHeartbeats 400000 in
theorem apart_any (A B : Nat) (w : World) (hA : A < 4294967296) (hB : B < 4294967296) :
    Calls Try.prog 73 #[.int .i64 A, .int .i64 B] w fun e w' => e = .returned (.int .i64 (A ^^^ B : Nat)) ∧ w = w' := by
  go_enter Try.func73, Try.ntmps73
  go_wp2
  go_loop [0, 1, 5, 6] (fun x y o t => ∃ a b out bit : Nat, Ap A B a b out bit ∧ x = .int .i64 a ∧ y = .int .i64 b ∧ o = .int .i64 out ∧ t = .int .i64 bit) (fun x y _ _ => (intOf x).toNat + (intOf y).toNat)
  case atStart => exact ⟨A, B, 0, 1, Ap.start A B, rfl, rfl, rfl, rfl⟩
  case round =>
    obtain ⟨a, b, out, bit, hap, rfl, rfl, rfl, rfl⟩ := hrel
    have la : a ≤ A := Nat.le_trans (Nat.le_mul_of_pos_left a hap.2.2.2) hap.2.1
    have lb : b ≤ B := Nat.le_trans (Nat.le_mul_of_pos_left b hap.2.2.2) hap.2.2.1
    by_cases hab : 0 < a ∨ 0 < b
    · obtain ⟨hb1, hb2⟩ := hap.bound hA hB hab
      have hst := hap.step
      have s1 : a % 2 ≠ b % 2 → Ap A B (a / 2) (b / 2) (out + bit) (bit * 2) := fun h => by rw [if_neg h] at hst; exact hst
      have s2 : a % 2 = b % 2 → Ap A B (a / 2) (b / 2) out (bit * 2) := fun h => by rw [if_pos h] at hst; exact hst
      have S1 := Lib.hid s1
      have S2 := Lib.hid s2
      clear hst s1 s2
      by_cases ha : 0 < a
      all_goals
        go_wp2
        · have h : ((a : Int) % 2 != (b : Int) % 2) = true := by assumption
          have hne : a % 2 ≠ b % 2 := by simp at h; omega
          go_round
          case rel => exact ⟨a / 2, b / 2, out + bit, bit * 2, S1.out hne, by go_num, by go_num, by go_num, by go_num⟩
          case measure => simp only [intOf]; omega
        · have h : ((a : Int) % 2 != (b : Int) % 2) = false := by assumption
          have hne : a % 2 = b % 2 := by simp at h; omega
          go_round
          case rel => exact ⟨a / 2, b / 2, out, bit * 2, S2.out hne, by go_num, by go_num, rfl, by go_num⟩
          case measure => simp only [intOf]; omega
    · have ha : a = 0 := by omega
      have hb : b = 0 := by omega
      subst ha hb
      have hd := hap.done
      go_wp2
      go_ret
      exact ⟨rfl, rfl⟩

set_option maxHeartbeats 400000 in
theorem refCheck_any (A : Option Addr) (n c : Nat) (F : Nat → Nat) (w : World) (h : Bytes w A n F) :
    Calls Try.prog 63 #[.slice A n c] w fun e w' => e = .returned (.int .i64 (crc F n)) ∧ w = w' := by
  obtain ⟨hn, hF, hA⟩ := h
  go_enter Try.func63, Try.ntmps63
  go_wp2
  go_loop [3, 4, 5, 6] (fun t i _ _ => ∃ k : Nat, k ≤ n ∧ i = .int .i64 k ∧ t = .int .i64 (crcTo F k)) (fun _ i _ _ => n - (intOf i).toNat)
  case atStart => exact ⟨0, Nat.zero_le _, rfl, rfl⟩
  case round =>
    obtain ⟨k, hk, rfl, rfl⟩ := hrel
    by_cases hlt : k < n
    · obtain ⟨b, o, rfl, hc⟩ := hA (by omega)
      have hck := hc k hlt
      have hFk := hF k hlt
      have hx := crcTo_lt (F := F) (n := k) fun i hi => hF i (by omega)
      go_wp2_with fail
      refine (apart_any _ _ _ hx (by omega)).mono ?_
      rintro e w' ⟨rfl, rfl⟩
      have hy := xor_lt32 hx (b := F k) (by omega)
      obtain ⟨y, hyy⟩ : ∃ y, y = crcTo F k ^^^ F k := ⟨_, rfl⟩
      rw [← hyy] at hy ⊢
      have HY := Lib.hid hyy
      clear hyy
      go_wp2
      go_loop [3, 5, 6] (fun t i _ => ∃ j : Nat, j ≤ 8 ∧ i = .int .i64 j ∧ t = .int .i64 (stpN j y)) (fun _ i _ => 8 - (intOf i).toNat)
      case atStart => exact ⟨0, Nat.zero_le _, rfl, rfl⟩
      case round =>
        obtain ⟨j, hj, rfl, rfl⟩ := hrel
        have hz := stpN_lt hy j
        by_cases hlj : j < 8
        · obtain ⟨z, hzz⟩ : ∃ z, z = stpN j y := ⟨_, rfl⟩
          rw [← hzz] at hz ⊢
          have HZ := Lib.hid hzz
          clear hzz
          by_cases hodd : z % 2 = 1
          · have hq : ((z : Int) % 2 == 1) = true := by simp; omega
            have HO := Lib.hid hodd
            clear hodd
            go_wp2_with fail
            rw [show ((z : Int) / 2) = ((z / 2 : Nat) : Int) from by omega]
            refine (apart_any (z / 2) 3988292384 _ (by omega) (by omega)).mono ?_
            rintro e w' ⟨rfl, rfl⟩
            go_wp2
            go_round
            case rel => exact ⟨j + 1, by omega, by go_num, by rw [stpN, ← HZ.out, stp, if_pos HO.out]⟩
            case measure => simp [intOf]; omega
          · have hq : ((z : Int) % 2 == 1) = false := by simp; omega
            have HO := Lib.hid hodd
            clear hodd
            go_wp2
            go_round
            case rel => exact ⟨j + 1, by omega, by go_num, by rw [stpN, ← HZ.out, stp, if_neg HO.out]; go_num⟩
            case measure => simp [intOf]; omega
        · go_wp2
          obtain rfl : j = 8 := by omega
          go_round
          case rel => exact ⟨k + 1, by omega, by go_num, by rw [HY.out]; rfl⟩
          case measure => simp [intOf]; omega
    · have hx := crcTo_lt (F := F) (n := k) fun i hi => hF i (by omega)
      go_wp2
      obtain rfl : k = n := by omega
      go_ret
      exact ⟨by unfold crc; go_num, rfl⟩
end Go.Proofs.Ytmikemijdglgaaa
/- The contract of the document's Build. -/
namespace Go.Proofs.Ytmikemijdglgaaa
open Go.RowKit

theorem refBuild_size (size mark : Int) (A : Option Addr) (n c : Nat) (w : World) (h : size < 64 ∨ 4096 < size) :
    Calls Try.prog 44 #[.int .i64 size, .int .i64 mark, .slice A n c] w fun e w' => e = .returned (.tuple #[.slice none 0 0, .int .i64 3]) ∧ w = w' := by
  by_cases hs : size < 64
  all_goals
    have hq : size < 64 ∨ 4096 < size := h
    clear h
    go_enter Try.func44, Try.ntmps44
    go_wp2
    go_ret2
    exact ⟨rfl, rfl⟩
theorem refBuild_mark (size mark : Int) (A : Option Addr) (n c : Nat) (w : World) (h1 : 64 ≤ size) (h2 : size ≤ 4096) (h : mark < 1 ∨ 4611686018427387904 < mark) :
    Calls Try.prog 44 #[.int .i64 size, .int .i64 mark, .slice A n c] w fun e w' => e = .returned (.tuple #[.slice none 0 0, .int .i64 2]) ∧ w = w' := by
  by_cases hm : mark < 1
  all_goals
    have hq : mark < 1 ∨ 4611686018427387904 < mark := h
    clear h
    go_enter Try.func44, Try.ntmps44
    go_wp2
    go_ret2
    exact ⟨rfl, rfl⟩
theorem refBuild_long (size mark : Int) (A : Option Addr) (n c : Nat) (w : World) (h1 : 64 ≤ size) (h2 : size ≤ 4096) (h3 : 1 ≤ mark) (h4 : mark ≤ 4611686018427387904) (hn : size - 36 < n) :
    Calls Try.prog 44 #[.int .i64 size, .int .i64 mark, .slice A n c] w fun e w' => e = .returned (.tuple #[.slice none 0 0, .int .i64 9]) ∧ w = w' := by
  go_enter Try.func44, Try.ntmps44
  go_wp2
  go_ret2
  exact ⟨rfl, rfl⟩

def lenOf : Value → Nat
  | .slice _ n _ => n
  | _ => 0

set_option maxHeartbeats 2000000 in
theorem refBuild_ok (size m mark n c : Nat) (A : Option Addr) (F : Nat → Nat) (w : World) (h1 : m + 20 ≤ size) (h2 : size ≤ m + 20) (h44 : 44 ≤ m) (hm : m ≤ 4076) (hk1 : 1 ≤ mark) (hk2 : mark ≤ 4611686018427387904) (hn : 16 + n ≤ m) (hb : Bytes w A n F) (hnil : A = none → c = 0) :
    Calls Try.prog 44 #[.int .i64 size, .int .i64 mark, .slice A n c] w fun e w' =>
      ∃ B d, e = .returned (.tuple #[.slice B size d, .int .i64 0]) ∧ OwnB w' w.heap.size B size d (secF m mark n F) ∧ Below w.heap.size w w' := by
  go_enter Try.func44, Try.ntmps44
  go_wp2_with fail
  refine (refBytes_any mark 8 w hk2 (by omega)).mono ?_
  rintro e W1 ⟨B1, d1, rfl, o1, l1⟩
  have o1' : OwnB W1 w.heap.size B1 8 d1 (headF mark) := o1.congr fun i hi => by unfold headF; rw [if_pos hi]
  clear o1
  go_wp2_with fail
  go_loopw [8, 9] (fun t i wr => ∃ (k : Nat) (B : Option Addr) (d : Nat), k ≤ 8 ∧ i = .int .i64 k ∧ t = .slice B (8 + k) d ∧ OwnB wr w.heap.size B (8 + k) d (headF mark) ∧ Below w.heap.size w wr) (fun _ i _ => 8 - (intOf i).toNat)
  case atStart => exact ⟨0, B1, d1, by omega, rfl, rfl, o1', l1⟩
  case round =>
    obtain ⟨k, B, d, hk, rfl, rfl, ho, hl⟩ := hrel
    by_cases hlt : k < 8
    · obtain ⟨g, rfl, hg, hc⟩ := ho.cell (i := k) (by omega)
      have hx := ho.2.1 k (by omega)
      have hF : ∀ i, i < 8 + k + 1 → pushF (headF mark) (8 + k) (255 - headF mark k) i = headF mark i := fun i hi => by
        unfold pushF
        split
        · rfl
        · obtain rfl : i = 8 + k := by omega
          have e2 : headF mark (8 + k) = 255 - headF mark k := by unfold headF; rw [if_neg (by omega), if_pos hlt, Nat.add_sub_cancel_left]
          exact e2.symm
      have HF := Lib.hid hF
      have HO := Lib.hid ho
      clear hF ho
      have hs := hl.size
      go_wp2_with (at_builtin; with_reducible refine wpList_push wr rfl _ _ 42 rfl Try.underlying42 u8infoAll w.heap.size _ _ _ _ rfl HO.out _ rfl ?d1 ?d2 ?d3 hs ?d4)
      case d1 => omega
      case d2 => omega
      case d3 => omega
      case d4 =>
        intro A1 c1 w1 o1 lq
        have o2 := o1.congr HF.out
        have l2 := hl.trans lq
        clear o1 lq HO
        go_wp2
        go_roundw
        case rel => exact ⟨k + 1, A1, c1, by omega, by go_num, rfl, o2, l2⟩
        case measure => simp [intOf]; omega
    · obtain rfl : k = 8 := by omega
      have hb2 := hb.below hl (Nat.le_refl _)
      have HB := Lib.hid hb2
      have HN := Lib.hid hnil
      have HO := Lib.hid ho
      have hs := hl.size
      clear hb2 hnil ho o1' l1
      go_wp2_with (at_builtin; with_reducible refine wpList_append_bytes wr rfl _ _ 42 rfl Try.underlying42 u8infoAll w.heap.size _ _ _ _ rfl HO.out _ _ _ _ rfl HB.out HN.out ?x1 hs ?x2)
      case x1 => omega
      case x2 =>
        intro B2 d2 W2 o2 g2 _
        have l2 : Below w.heap.size w W2 := hl.grown g2 hs fun j hj => (HO.out.base_le hj).1
        have o2' : OwnB W2 w.heap.size B2 (16 + n) d2 (padF mark n F) := o2.congr fun i hi => by unfold padF; rw [if_pos hi]
        clear o2 g2 HO HB HN
        go_wp2
        go_loopw [8] (fun t wr => ∃ (L : Nat) (B : Option Addr) (d : Nat), 16 + n ≤ L ∧ L ≤ m ∧ t = .slice B L d ∧ OwnB wr w.heap.size B L d (padF mark n F) ∧ Below w.heap.size w wr) (fun t _ => m - lenOf t)
        case atStart => exact ⟨16 + n, B2, d2, by omega, hn, rfl, o2', l2⟩
        case round =>
          clear hl hs o2' l2
          obtain ⟨L, B3, d3, hL1, hL2, rfl, ho3, hl3⟩ := hrel
          have hs3 := hl3.size
          by_cases hlt3 : L < m
          · have hF : ∀ i, i < L + 1 → pushF (padF mark n F) L 0 i = padF mark n F i := fun i hi => by
              unfold pushF
              split
              · rfl
              · obtain rfl : i = L := by omega
                unfold padF
                rw [if_neg (by omega)]
            have HF := Lib.hid hF
            have HO := Lib.hid ho3
            clear hF ho3
            go_wp2_with (at_builtin; with_reducible refine wpList_push _ rfl _ _ 42 rfl Try.underlying42 u8infoAll w.heap.size _ _ _ _ rfl HO.out _ rfl ?y1 ?y2 ?y3 hs3 ?y4)
            case y1 => omega
            case y2 => omega
            case y3 => omega
            case y4 =>
              intro A1 c1 w1 o1 lq
              have o4 := o1.congr HF.out
              have l4 := hl3.trans lq
              clear o1 lq HO
              go_wp2
              go_roundw
              case rel => exact ⟨L + 1, A1, c1, by omega, by omega, rfl, o4, l4⟩
              case measure => simp only [lenOf]; omega
          · obtain rfl : L = m := by omega
            have ob := ho3.bytes
            go_wp2_with fail
            refine (refCheck_any _ L _ (padF mark n F) _ ob).mono ?_
            rintro e W3 ⟨rfl, rfl⟩
            have hcl := crc_lt (padF mark n F) L
            go_wp2_with fail
            refine (refBytes_any (crc (padF mark n F) L) 4 _ (by omega) (by omega)).mono ?_
            rintro e W4 ⟨B4, d4, rfl, o4, l4⟩
            have o5 := ho3.below l4
            have l5 : Below w.heap.size w W4 := hl3.trans (l4.mono hs3)
            have hs5 := l5.size
            have HO := Lib.hid o5
            have HB := Lib.hid o4.bytes
            have HN := Lib.hid o4.2.2.2.2
            clear ho3 hl3 ob o4 l4 o5 hs3
            go_wp2_with (at_builtin; with_reducible refine wpList_append_bytes _ rfl (.tmp 55) (.tmp 57) 42 rfl Try.underlying42 u8infoAll w.heap.size _ _ _ _ rfl HO.out _ _ _ _ rfl HB.out HN.out ?z1 hs5 ?z2)
            case z1 => omega
            case z2 =>
              intro B6 d6 W6 o6 g6 _
              have l6 : Below w.heap.size w W6 := l5.grown g6 hs5 fun j hj => (HO.out.base_le hj).1
              have o6' : OwnB W6 w.heap.size B6 (L + 4) d6 (sumF L mark n F) := o6
              have hs6 := l6.size
              have hd6 := o6'.2.2.1
              have hd7 := o6'.2.2.2.1
              have HO6 := Lib.hid o6'
              have HB6 := Lib.hid (o6'.bytes.head 16 (by omega))
              have HN6 := Lib.hid o6'.2.2.2.2
              clear o6 g6 HO HB HN l5 hs5 o6'
              go_wp2_with (at_builtin; with_reducible refine wpList_append_bytes _ rfl (.tmp 59) (.tmp 61) 42 rfl Try.underlying42 u8infoAll w.heap.size _ _ _ _ rfl HO6.out _ _ _ _ rfl HB6.out HN6.out ?v1 hs6 ?v2)
              case v1 => omega
              case v2 =>
                intro B8 d8 W8 o8 g8 _
                have l8 : Below w.heap.size w W8 := l6.grown g8 hs6 fun j hj => (HO6.out.base_le hj).1
                have o9 : OwnB W8 w.heap.size B8 (L + 4 + 16) d8 (secF L mark n F) := o8.congr fun i hi => ref_sec (by omega) (by omega) (by omega)
                clear o8 g8 HO6 HB6 HN6 l6 hs6
                go_wp2
                go_ret2
                have e : L + 4 + 16 = size := by omega
                subst e
                exact ⟨B8, d8, rfl, o9, l8⟩
end Go.Proofs.Ytmikemijdglgaaa
/- The contract of awake: what the chapter's examples say. -/
namespace Go.Proofs.Ytmikemijdglgaaa
open Go.RowKit

def hiF (i : Nat) : Nat := [104, 105].getD i 0
def figF (i : Nat) : Nat := [49, 50, 51, 52, 53, 54, 55, 56, 57].getD i 0
theorem fig_crc : crc figF 9 = 3421780262 := by decide +kernel
theorem sec_0 : secF 44 5 2 hiF 0 = 5 := by decide +kernel
theorem sec_8 : secF 44 5 2 hiF 8 = 250 := by decide +kernel
theorem sec_16 : secF 44 5 2 hiF 16 = 104 := by decide +kernel
theorem sec_48 : secF 44 5 2 hiF 48 = 5 := by decide +kernel
theorem sec_56 : secF 44 5 2 hiF 56 = 250 := by decide +kernel

theorem marked_bytes (w : World) (C : Array Value) (F : Nat → Nat) (fr : Nat × Nat) (n : Nat) (hn : n ≤ 4096) (h : ∀ i, i < n → C[i]? = some (.int .u8 (F i)) ∧ F i < 256) :
    Bytes (w.alloc (.cells C 5 fr)) (some ⟨w.heap.size, 0, none⟩) n F := by
  refine ⟨by omega, fun i hi => (h i hi).2, fun _ => ⟨_, _, rfl, fun i hi => ?_⟩⟩
  have e : (w.alloc (.cells C 5 fr)).heap[w.heap.size]? = some (.cells C 5 fr) := heap_alloc_new w _
  rw [Nat.zero_add]
  simp only [World.cell?, e, (h i hi).1]
  rfl
theorem hi_bytes (w : World) (fr : Nat × Nat) : Bytes (w.alloc (.cells #[.int .u8 104, .int .u8 105] 5 fr)) (some ⟨w.heap.size, 0, none⟩) 2 hiF := by
  refine marked_bytes w _ hiF fr 2 (by omega) fun i hi => ?_
  match i, hi with
  | 0, _ => exact ⟨rfl, by decide⟩
  | 1, _ => exact ⟨rfl, by decide⟩
theorem fig_bytes (w : World) (fr : Nat × Nat) : Bytes (w.alloc (.cells #[.int .u8 49, .int .u8 50, .int .u8 51, .int .u8 52, .int .u8 53, .int .u8 54, .int .u8 55, .int .u8 56, .int .u8 57] 5 fr)) (some ⟨w.heap.size, 0, none⟩) 9 figF := by
  refine marked_bytes w _ figF fr 9 (by omega) fun i hi => ?_
  match i, hi with
  | 0, _ => exact ⟨rfl, by decide⟩
  | 1, _ => exact ⟨rfl, by decide⟩
  | 2, _ => exact ⟨rfl, by decide⟩
  | 3, _ => exact ⟨rfl, by decide⟩
  | 4, _ => exact ⟨rfl, by decide⟩
  | 5, _ => exact ⟨rfl, by decide⟩
  | 6, _ => exact ⟨rfl, by decide⟩
  | 7, _ => exact ⟨rfl, by decide⟩
  | 8, _ => exact ⟨rfl, by decide⟩

end Go.Proofs.Ytmikemijdglgaaa
/- The walk of FrameChecks; bytes that came in. -/
namespace Go.Proofs.Ytmikemijdglgaaa
open Go.RowKit

end Go.Proofs.Ytmikemijdglgaaa
/- Bytes as a string; Build and the document's Build in one form, whatever the arguments. -/
namespace Go.Proofs.Ytmikemijdglgaaa
open Go.RowKit

/-- Build's error number, the length of what it makes, its bytes. -/
def bErr (size mark : Int) (n : Nat) : Int := if size < 64 ∨ 4096 < size then 3 else if mark < 1 ∨ 4611686018427387904 < mark then 2 else if size - 36 < n then 9 else 0
def bLen (size mark : Int) (n : Nat) : Nat := if bErr size mark n = 0 then size.toNat else 0
def bF (size mark : Int) (n : Nat) (F : Nat → Nat) : Nat → Nat := secF (size.toNat - 20) mark.toNat n F
theorem bErr_1 {size mark : Int} {n : Nat} (h : size < 64 ∨ 4096 < size) : bErr size mark n = 3 := if_pos h
theorem bErr_2 {size mark : Int} {n : Nat} (h : ¬ (size < 64 ∨ 4096 < size)) (h2 : mark < 1 ∨ 4611686018427387904 < mark) : bErr size mark n = 2 := by unfold bErr; rw [if_neg h, if_pos h2]
theorem bErr_3 {size mark : Int} {n : Nat} (h : ¬ (size < 64 ∨ 4096 < size)) (h2 : ¬ (mark < 1 ∨ 4611686018427387904 < mark)) (h3 : size - 36 < n) : bErr size mark n = 9 := by unfold bErr; rw [if_neg h, if_neg h2, if_pos h3]
theorem bErr_0 {size mark : Int} {n : Nat} (h : ¬ (size < 64 ∨ 4096 < size)) (h2 : ¬ (mark < 1 ∨ 4611686018427387904 < mark)) (h3 : ¬ size - 36 < n) : bErr size mark n = 0 := by unfold bErr; rw [if_neg h, if_neg h2, if_neg h3]

theorem build_all (size mark : Int) (n c : Nat) (A : Option Addr) (F : Nat → Nat) (w : World) (hb : Bytes w A n F) :
    Calls Try.prog 61 #[.int .i64 size, .int .i64 mark, .slice A n c] w fun e w' =>
      ∃ B d, e = .returned (.tuple #[.slice B (bLen size mark n) d, .int .i64 (bErr size mark n)]) ∧ Bytes w' B (bLen size mark n) (bF size mark n F) ∧ Below w.heap.size w w' := by
  unfold bLen
  by_cases h1 : size < 64 ∨ 4096 < size
  · rw [bErr_1 h1]
    exact (build_size size mark A n c w h1).mono fun e w' ⟨he, hw⟩ => ⟨none, 0, he, none_bytes _ _, hw ▸ Below.refl _ _⟩
  · by_cases h2 : mark < 1 ∨ 4611686018427387904 < mark
    · rw [bErr_2 h1 h2]
      exact (build_mark size mark A n c w (by omega) (by omega) h2).mono fun e w' ⟨he, hw⟩ => ⟨none, 0, he, none_bytes _ _, hw ▸ Below.refl _ _⟩
    · by_cases h3 : size - 36 < n
      · rw [bErr_3 h1 h2 h3]
        exact (build_long size mark A n c w (by omega) (by omega) (by omega) (by omega) h3 hb.1).mono fun e w' ⟨he, hw⟩ => ⟨none, 0, he, none_bytes _ _, hw ▸ Below.refl _ _⟩
      · rw [bErr_0 h1 h2 h3, if_pos rfl]
        obtain ⟨s, rfl⟩ := Int.eq_ofNat_of_zero_le (show 0 ≤ size by omega)
        obtain ⟨k, rfl⟩ := Int.eq_ofNat_of_zero_le (show 0 ≤ mark by omega)
        refine (build_ok s (s - 20) k n c A F w (by omega) (by omega) (by omega) (by omega) (by omega) (by omega) (by omega) hb).mono fun e w' ⟨he, hr, hl⟩ => ?_
        exact ⟨_, _, he, ((hr.bytes (o := 0) (m := s) (by omega)).congr fun i _ => by rw [Nat.zero_add]; rfl), hl⟩

theorem refBuild_all (size mark : Int) (n c : Nat) (A : Option Addr) (F : Nat → Nat) (w : World) (hb : Bytes w A n F) (hnil : A = none → c = 0) :
    Calls Try.prog 44 #[.int .i64 size, .int .i64 mark, .slice A n c] w fun e w' =>
      ∃ B d, e = .returned (.tuple #[.slice B (bLen size mark n) d, .int .i64 (bErr size mark n)]) ∧ Bytes w' B (bLen size mark n) (bF size mark n F) ∧ Below w.heap.size w w' := by
  unfold bLen
  by_cases h1 : size < 64 ∨ 4096 < size
  · rw [bErr_1 h1]
    exact (refBuild_size size mark A n c w h1).mono fun e w' ⟨he, hw⟩ => ⟨none, 0, he, none_bytes _ _, hw ▸ Below.refl _ _⟩
  · by_cases h2 : mark < 1 ∨ 4611686018427387904 < mark
    · rw [bErr_2 h1 h2]
      exact (refBuild_mark size mark A n c w (by omega) (by omega) h2).mono fun e w' ⟨he, hw⟩ => ⟨none, 0, he, none_bytes _ _, hw ▸ Below.refl _ _⟩
    · by_cases h3 : size - 36 < n
      · rw [bErr_3 h1 h2 h3]
        exact (refBuild_long size mark A n c w (by omega) (by omega) (by omega) (by omega) h3).mono fun e w' ⟨he, hw⟩ => ⟨none, 0, he, none_bytes _ _, hw ▸ Below.refl _ _⟩
      · rw [bErr_0 h1 h2 h3, if_pos rfl]
        obtain ⟨s, rfl⟩ := Int.eq_ofNat_of_zero_le (show 0 ≤ size by omega)
        obtain ⟨k, rfl⟩ := Int.eq_ofNat_of_zero_le (show 0 ≤ mark by omega)
        refine (refBuild_ok s (s - 20) k n c A F w (by omega) (by omega) (by omega) (by omega) (by omega) (by omega) (by omega) hb hnil).mono fun e w' ⟨B, d, he, hr, hl⟩ => ?_
        exact ⟨B, d, he, hr.bytes, hl⟩

end Go.Proofs.Ytmikemijdglgaaa
