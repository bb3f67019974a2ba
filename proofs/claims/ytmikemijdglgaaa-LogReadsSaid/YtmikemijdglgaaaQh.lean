/- Merged texts: FRefRead, FTurned, FTornDefs, DLight, DState, LSecP, LMach, LCont, LRSlot, LRLat. -/
import Derived.Test.YtmikemijdglgaaaQg
/- The contract of the document's Read; both reads in one form. -/
namespace Go.Proofs.Ytmikemijdglgaaa
open Go.RowKit

/-- What is read of n bytes: mark, length of the load, error number. -/
def ReadRes (F : Nat → Nat) (n v k : Nat) (e : Int) : Prop :=
  ((n < 64 ∨ 4096 < n) ∧ v = 0 ∧ k = 0 ∧ e = 3) ∨ ((64 ≤ n ∧ n ≤ 4096) ∧ okP F (n - 20) ∧ v = leTo F 8 ∧ k = n - 36 ∧ e = 0) ∨ ((64 ≤ n ∧ n ≤ 4096) ∧ ¬ okP F (n - 20) ∧ v = 0 ∧ k = 0 ∧ e = 5)
theorem ReadRes.same {F : Nat → Nat} {n v k v' k' : Nat} {e e' : Int} (h : ReadRes F n v k e) (h' : ReadRes F n v' k' e') : v = v' ∧ k = k' ∧ e = e' := by
  rcases h with ⟨a, b, c, d⟩ | ⟨a, p, b, c, d⟩ | ⟨a, p, b, c, d⟩ <;> rcases h' with ⟨a', b', c', d'⟩ | ⟨a', p', b', c', d'⟩ | ⟨a', p', b', c', d'⟩ <;> first | exact absurd p' p | exact absurd p p' | exact ⟨b.trans b'.symm, c.trans c'.symm, d.trans d'.symm⟩ | omega
theorem ReadRes.yes {F : Nat → Nat} {n m : Nat} (h1 : m + 20 ≤ n) (h2 : n ≤ m + 20) (h44 : 44 ≤ m) (hm : m ≤ 4076) (hok : okP F m) : ReadRes F n (leTo F 8) (m - 16) 0 := by
  have e : n - 20 = m := by omega
  exact .inr (.inl ⟨by omega, by rw [e]; exact hok, rfl, by omega, rfl⟩)
theorem ReadRes.no {F : Nat → Nat} {n m : Nat} (h1 : m + 20 ≤ n) (h2 : n ≤ m + 20) (h44 : 44 ≤ m) (hm : m ≤ 4076) (hok : ¬ okP F m) : ReadRes F n 0 0 5 := by
  have e : n - 20 = m := by omega
  exact .inr (.inr ⟨by omega, by rw [e]; exact hok, rfl, rfl, rfl⟩)

theorem read_all (A : Option Addr) (n c : Nat) (F : Nat → Nat) (w : World) (hb : Bytes w A n F) (hc : n ≤ c) (hc2 : c ≤ 9223372036854775807) :
    Calls Try.prog 64 #[.slice A n c] w fun e w' =>
      ∃ v k B d er, e = .returned (.tuple #[.int .i64 ((v : Nat) : Int), .slice B k d, .int .i64 er]) ∧ ReadRes F n v k er ∧ Bytes w' B k (fun i => F (16 + i)) ∧ Below w.heap.size w w' := by
  by_cases hs : n < 64 ∨ 4096 < n
  · exact (read_size A n c w hs hb.1).mono fun e w' ⟨he, hw⟩ => ⟨0, 0, none, 0, 3, he, .inl ⟨hs, rfl, rfl, rfl⟩, none_bytes _ _, hw ▸ Below.refl _ _⟩
  · obtain ⟨b, o, rfl, _⟩ := hb.2.2 (by omega)
    by_cases hok : okP F (n - 20)
    · exact (read_yes b o n (n - 20) c F w (by omega) (by omega) (by omega) (by omega) hc hc2 hb hok).mono fun e w' ⟨B, d, he, h1, _, _, h2⟩ =>
        ⟨leTo F 8, n - 20 - 16, B, d, 0, he, .yes (by omega) (by omega) (by omega) (by omega) hok, h1, h2⟩
    · exact (read_no b o n (n - 20) c F w (by omega) (by omega) (by omega) (by omega) hc hc2 hb hok).mono fun e w' ⟨he, h2⟩ =>
        ⟨0, 0, none, 0, 5, he, .no (by omega) (by omega) (by omega) (by omega) hok, none_bytes _ _, h2⟩

/-- The number that is gathered from the highest byte down. -/
def topF (F : Nat → Nat) : Nat → Nat
  | 0 => 0
  | k + 1 => 256 * topF F k + F (7 - k)
theorem top_all (F : Nat → Nat) : topF F 8 = leTo F 8 := by
  simp [topF, leTo]
  omega
theorem top_grows (F : Nat → Nat) (k : Nat) : ∀ j, k ≤ j → topF F k ≤ topF F j
  | 0, h => by obtain rfl : k = 0 := by omega
               exact Nat.le_refl _
  | j + 1, h => by
    rcases Nat.lt_or_ge j k with h1 | h1
    · obtain rfl : k = j + 1 := by omega
      exact Nat.le_refl _
    · have := top_grows F k j h1
      rw [topF]
      omega
theorem top_high {F : Nat → Nat} {k : Nat} (hk : k < 8) (h : 18014398509481984 < topF F k) : 4611686018427387904 < leTo F 8 := by
  have h1 := top_grows F (k + 1) 8 (by omega)
  rw [top_all, topF] at h1
  omega

theorem refRead_size (A : Option Addr) (n c : Nat) (w : World) (h : n < 64 ∨ 4096 < n) (hn : n ≤ 9223372036854775807) :
    Calls Try.prog 53 #[.slice A n c] w fun e w' => e = .returned (.tuple #[.int .i64 0, .slice none 0 0, .int .i64 3]) ∧ w = w' := by
  by_cases hs : n < 64
  · clear h
    go_enter Try.func53, Try.ntmps53
    go_wp2
    go_ret3
    exact ⟨rfl, rfl⟩
  · have h2 : 4096 < n := by omega
    clear h
    go_enter Try.func53, Try.ntmps53
    go_wp2
    go_ret3
    exact ⟨rfl, rfl⟩

def RefPost (F : Nat → Nat) (n : Nat) (w : World) (e : Ending) (w' : World) : Prop :=
  ∃ v k B d er, e = .returned (.tuple #[.int .i64 ((v : Nat) : Int), .slice B k d, .int .i64 er]) ∧ ReadRes F n v k er ∧ Bytes w' B k (fun i => F (16 + i)) ∧ Below w.heap.size w w'
/-- The same, with the room of what is told. -/
def RefPost2 (F : Nat → Nat) (n : Nat) (w : World) (e : Ending) (w' : World) : Prop :=
  ∃ v k B d er, e = .returned (.tuple #[.int .i64 ((v : Nat) : Int), .slice B k d, .int .i64 er]) ∧ ReadRes F n v k er ∧ Bytes w' B k (fun i => F (16 + i)) ∧ Below w.heap.size w w' ∧ k ≤ d ∧ d ≤ 9223372036854775807 ∧ ∀ a, B = some a → w.heap.size ≤ a.block
theorem RefPost2.weak {F : Nat → Nat} {n : Nat} {w w' : World} {e : Ending} : RefPost2 F n w e w' → RefPost F n w e w'
  | ⟨v, k, B, d, er, he, hr, hb, hl, _⟩ => ⟨v, k, B, d, er, he, hr, hb, hl⟩

set_option maxHeartbeats 1000000 in
theorem refRead_in2 (b o n m c : Nat) (F : Nat → Nat) (w : World) (h1 : m + 20 ≤ n) (h2 : n ≤ m + 20) (h44 : 44 ≤ m) (hm : m ≤ 4076) (hc : n ≤ c) (_hc2 : c ≤ 9223372036854775807) (hb : Bytes w (some ⟨b, o, none⟩) n F) :
    Calls Try.prog 53 #[.slice (some ⟨b, o, none⟩) n c] w (RefPost2 F n w) := by
  obtain ⟨bx, ox, hx, hcell⟩ := hb.2.2 (by omega)
  obtain ⟨rfl, rfl⟩ : b = bx ∧ o = ox := by injection hx with hx; injection hx with hx1 hx2; exact ⟨hx1, hx2⟩
  clear hx
  have HC := Lib.hid hcell
  clear hcell
  go_enter Try.func53, Try.ntmps53
  go_wp2
  go_loop [5, 6] (fun t i => (∃ j : Nat, j ≤ 7 ∧ i = .int .i64 j ∧ t = .int .i64 (topF F (7 - j))) ∨ (i = .int .i64 (-1) ∧ t = .int .i64 (topF F 8))) (fun _ i => (intOf i + 1).toNat)
  case atStart => exact .inl ⟨7, by omega, rfl, rfl⟩
  case round =>
    rcases hrel with ⟨j, hj, rfl, rfl⟩ | ⟨rfl, rfl⟩
    · by_cases hhi : 18014398509481984 < topF F (7 - j)
      · have hbig := top_high (by omega) hhi
        have hno : ¬ okP F m := fun h => by have := h.1.2; omega
        have hr := ReadRes.no (n := n) h1 h2 h44 hm hno
        have HR := Lib.hid hr
        clear hr hno hbig
        obtain ⟨x, hxx⟩ : ∃ x, x = topF F (7 - j) := ⟨_, rfl⟩
        rw [← hxx] at hhi ⊢
        clear hxx
        go_wp2
        go_ret3
        exact ⟨0, 0, none, 0, 5, rfl, HR.out, none_bytes _ _, Below.refl _ _, Nat.le_refl _, Nat.zero_le _, fun _ h => nomatch h⟩
      · have hF := hb.2.1 j (by omega)
        have hcj := HC.out j (by omega)
        have hstep : 256 * topF F (7 - j) + F j = topF F (7 - j + 1) := by
          rw [topF]
          congr 2
          omega
        obtain ⟨x, hxx⟩ : ∃ x, x = topF F (7 - j) := ⟨_, rfl⟩
        rw [← hxx] at hhi hstep ⊢
        have HS := Lib.hid hstep
        clear hxx hstep
        by_cases hj0 : j = 0
        · subst hj0
          have hcj0 : w.cell? ⟨b, o, none⟩ = some (.int .u8 (F 0)) := by rw [Nat.add_zero] at hcj; exact hcj
          clear hcj
          go_wp2
          go_round
          case rel => exact .inr ⟨rfl, by rw [← HS.out]; go_num⟩
          case measure => simp [intOf]
        · have hjp : 0 < j := by omega
          clear hj0
          go_wp2
          go_round
          case rel => exact .inl ⟨j - 1, by omega, by go_num, by rw [show 7 - (j - 1) = 7 - j + 1 from by omega, ← HS.out]; go_num⟩
          case measure => simp only [intOf]; omega
    · rw [top_all]
      have L1 := (Below.refl w.heap.size w).alloc (Nat.le_refl _) (.cells #[] 5)
      have H1 := Lib.hid ((hb.cut 16 (n - 20 - 16) (by omega)).below L1 (Nat.le_refl _))
      have HO := Lib.hid (own_empty w F)
      have HL := Lib.hid L1
      clear L1
      go_wp2_with (at_builtin; with_reducible refine wpList_append_bytes _ rfl (.tmp 32) (.tmp 37) 42 rfl Try.underlying42 u8infoAll w.heap.size _ _ _ _ rfl HO.out _ _ _ _ rfl H1.out ?d0 ?d1 ?d2 ?d3)
      case d1 => omega
      case d3 =>
        intro A1 c1 w1 o1 g1 _
        have l1 : Below w.heap.size w w1 := HL.out.grown g1 (by simp) (by rintro k ⟨⟩; exact Nat.le_refl _)
        have o2 : OwnB w1 w.heap.size A1 (n - 20 - 16) c1 (fun i => F (16 + i)) := by
          have := o1.congr (G := fun i => F (16 + i)) fun i _ => by unfold catF; rw [if_neg (by omega), Nat.sub_zero]
          simpa only [Nat.zero_add] using this
        have b2 := Lib.hid o2.bytes
        have n2 := Lib.hid o2.2.2.2.2
        have n3 := Lib.hid (And.intro o2.2.2.1 (And.intro o2.2.2.2.1 (show ∀ a, A1 = some a → w.heap.size ≤ a.block from fun a h => by subst h; exact (o2.1.lt a.block rfl).1)))
        have hs1 := hb.below l1 (Nat.le_refl _)
        clear o1 g1 o2 HL HO H1
        obtain ⟨K, hK1, hK2, hKe⟩ : ∃ K, n ≤ K + 36 ∧ K + 36 ≤ n ∧ n - 20 - 16 = K := ⟨n - 20 - 16, by omega, by omega, rfl⟩
        rw [hKe] at b2 n3 ⊢
        clear hKe
        go_wp2_with fail
        refine (refBuild_all (n : Int) (leTo F 8 : Int) K _ _ _ w1 b2.out n2.out).mono ?_
        rintro e w2 ⟨B2, d2, rfl, bb2, l2⟩
        have l3 : Below w.heap.size w w2 := l1.trans (l2.mono l1.size)
        have lb := b2.out.below l2 (Nat.le_refl _)
        by_cases hr : (leTo F 8 : Int) < 1 ∨ 4611686018427387904 < (leTo F 8 : Int)
        · have hno : ¬ okP F m := fun h => by have := h.1; omega
          have HR := Lib.hid (ReadRes.no (n := n) h1 h2 h44 hm hno)
          have hE := bErr_2 (size := (n : Int)) (mark := (leTo F 8 : Int)) (n := K) (by omega) hr
          rw [hE]
          clear hno hr
          go_wp2
          go_ret3
          exact ⟨0, 0, none, 0, 5, rfl, HR.out, none_bytes _ _, l3, Nat.le_refl _, Nat.zero_le _, fun _ h => nomatch h⟩
        · have hE := bErr_0 (size := (n : Int)) (mark := (leTo F 8 : Int)) (n := K) (by omega) hr (by omega)
          have hLn : bLen (n : Int) (leTo F 8 : Int) K = n := by unfold bLen; rw [hE, if_pos rfl]; omega
          rw [hE, hLn]
          rw [hLn] at bb2
          have k1 := conv_any d2 bb2
          have k2 := conv_any c (hs1.below l2 (Nat.le_refl _))
          have hF := hb.2.1
          have hB := bb2.2.1
          have hm' : (n : Int).toNat - 20 = m := by omega
          have hv' : (leTo F 8 : Int).toNat = leTo F 8 := by omega
          have hK' : K = m - 16 := by omega
          have hsec : okP F m ↔ ∀ i, i < n → bF (n : Int) (leTo F 8 : Int) K (fun i => F (16 + i)) i = F i := by
            rw [ok_iff h44 fun i hi => hF i (by omega)]
            unfold secP bF
            rw [hm', hv', hK']
            constructor
            · exact fun h i hi => h.2 i (by omega)
            · exact fun h => ⟨by omega, fun i hi => h i (by omega)⟩
          by_cases hok : okP F m
          · have HR := Lib.hid (ReadRes.yes (n := n) h1 h2 h44 hm hok)
            have q1 : ((strF (bF (n : Int) (leTo F 8 : Int) K fun i => F (16 + i)) n).toList == (strF F n).toList) = true := by
              rw [strF_congr (hsec.1 hok)]; simp
            have HK := Lib.hid hK'
            clear hm' hv' hsec hok hE hLn hr bb2 hB hF lb hK'
            have lb := b2.out.below l2 (Nat.le_refl _)
            go_wp2
            go_ret3
            exact ⟨leTo F 8, m - 16, A1, c1, 0, by rw [← HK.out]; rfl, HR.out, by rw [← HK.out]; exact lb, l3, by rw [← HK.out]; exact n3.out.1, n3.out.2.1, n3.out.2.2⟩
          · have HR := Lib.hid (ReadRes.no (n := n) h1 h2 h44 hm hok)
            have q1 : ((strF (bF (n : Int) (leTo F 8 : Int) K fun i => F (16 + i)) n).toList == (strF F n).toList) = false := by
              rw [beq_eq_false_iff_ne]
              intro h
              rw [ByteArray.toList_eq, ByteArray.toList_eq] at h
              exact hok (hsec.2 (strF_inj hB hF h))
            clear hm' hv' hsec hok hE hLn hr bb2 hB hF lb hK'
            go_wp2
            go_ret3
            exact ⟨0, 0, none, 0, 5, rfl, HR.out, none_bytes _ _, l3, Nat.le_refl _, Nat.zero_le _, fun _ h => nomatch h⟩

theorem refRead_all2 (A : Option Addr) (n c : Nat) (F : Nat → Nat) (w : World) (hb : Bytes w A n F) (hc : n ≤ c) (hc2 : c ≤ 9223372036854775807) :
    Calls Try.prog 53 #[.slice A n c] w (RefPost2 F n w) := by
  by_cases hs : n < 64 ∨ 4096 < n
  · exact (refRead_size A n c w hs hb.1).mono fun e w' ⟨he, hw⟩ => ⟨0, 0, none, 0, 3, he, .inl ⟨hs, rfl, rfl, rfl⟩, none_bytes _ _, hw ▸ Below.refl _ _, Nat.le_refl _, Nat.zero_le _, fun _ h => nomatch h⟩
  · obtain ⟨b, o, rfl, _⟩ := hb.2.2 (by omega)
    exact refRead_in2 b o n (n - 20) c F w (by omega) (by omega) (by omega) (by omega) hc hc2 hb
theorem refRead_in (b o n m c : Nat) (F : Nat → Nat) (w : World) (h1 : m + 20 ≤ n) (h2 : n ≤ m + 20) (h44 : 44 ≤ m) (hm : m ≤ 4076) (hc : n ≤ c) (hc2 : c ≤ 9223372036854775807) (hb : Bytes w (some ⟨b, o, none⟩) n F) :
    Calls Try.prog 53 #[.slice (some ⟨b, o, none⟩) n c] w (RefPost F n w) :=
  (refRead_in2 b o n m c F w h1 h2 h44 hm hc hc2 hb).mono fun _ _ h => h.weak
theorem refRead_all (A : Option Addr) (n c : Nat) (F : Nat → Nat) (w : World) (hb : Bytes w A n F) (hc : n ≤ c) (hc2 : c ≤ 9223372036854775807) :
    Calls Try.prog 53 #[.slice A n c] w (RefPost F n w) :=
  (refRead_all2 A n c F w hb hc hc2).mono fun _ _ h => h.weak
end Go.Proofs.Ytmikemijdglgaaa
/- The walk of FrameTurned. -/
namespace Go.Proofs.Ytmikemijdglgaaa
open Go.RowKit

theorem place_of (x : Int) (s : Nat) (h1 : 0 < s) (h2 : s ≤ 1000000) : ∃ j : Nat, j < s ∧ wrap64 ((IntKind.u64.wrap x).tmod (s : Int)) = (j : Int) := by
  have h0 := wrap_u64_nonneg x
  rw [Int.tmod_eq_emod_of_nonneg h0]
  have h3 := Int.emod_nonneg (IntKind.u64.wrap x) (show (s : Int) ≠ 0 by omega)
  have h4 := Int.emod_lt_of_pos (IntKind.u64.wrap x) (show (0 : Int) < (s : Int) by omega)
  obtain ⟨j, hj⟩ := Int.eq_ofNat_of_zero_le h3
  refine ⟨j, by omega, ?_⟩
  rw [hj]
  exact IntWalk.wrap64_in _ ⟨by omega, by omega⟩

end Go.Proofs.Ytmikemijdglgaaa
/- What stands there behind each piece, and what was written. -/
namespace Go.Proofs.Ytmikemijdglgaaa
open Go.RowKit

theorem build_int (size m n c : Nat) (mark : Int) (A : Option Addr) (F : Nat → Nat) (w : World) (h1 : m + 20 ≤ size) (h2 : size ≤ m + 20) (h44 : 44 ≤ m) (hm : m ≤ 4076) (hk1 : 1 ≤ mark) (hk2 : mark ≤ 4611686018427387904) (hn : 16 + n ≤ m) (hb : Bytes w A n F) :
    Calls Try.prog 61 #[.int .i64 size, .int .i64 mark, .slice A n c] w fun e w' =>
      e = .returned (.tuple #[.slice (some ⟨w.heap.size, 0, none⟩) size size, .int .i64 0]) ∧ BRow w' w.heap.size size (secF m mark.toNat n F) ∧ Below w.heap.size w w' := by
  obtain ⟨k, rfl⟩ := Int.eq_ofNat_of_zero_le (show 0 ≤ mark by omega)
  exact build_ok size m k n c A F w h1 h2 h44 hm (by omega) (by omega) hn hb
theorem strinfo : (Try.prog.info? 9).map (fun i => (i.zero, i.size, i.bytes)) = some (some (.string ByteArray.empty), 1, 16) := by kernel_rfl

/-- What stands there, and what was written, behind k rounds. -/
def nowS (zero : Bool) (S : Nat → Nat → Nat) (cut : Nat → Nat) : Nat → Nat → Nat
  | 0 => zeroF
  | k + 1 => if k = 0 ∧ zero = true then zeroF else copyF (nowS zero S cut k) 0 (cut k) (S k)
def wholeS (zero : Bool) (S : Nat → Nat → Nat) (s : Nat) : Nat → List Value
  | 0 => []
  | k + 1 => if k = 0 ∧ zero = true then [] else wholeS zero S s k ++ [.string (strF (S k) s)]
theorem nowS_skip (zero : Bool) (S : Nat → Nat → Nat) (cut : Nat → Nat) (h : zero = true) : nowS zero S cut 1 = nowS zero S cut 0 := if_pos ⟨rfl, h⟩
theorem nowS_step {zero : Bool} {S : Nat → Nat → Nat} {cut : Nat → Nat} {k : Nat} (h : ¬ (k = 0 ∧ zero = true)) : nowS zero S cut (k + 1) = copyF (nowS zero S cut k) 0 (cut k) (S k) := if_neg h
theorem wholeS_skip (zero : Bool) (S : Nat → Nat → Nat) (s : Nat) (h : zero = true) : wholeS zero S s 1 = wholeS zero S s 0 := if_pos ⟨rfl, h⟩
theorem wholeS_step {zero : Bool} {S : Nat → Nat → Nat} {s k : Nat} (h : ¬ (k = 0 ∧ zero = true)) : wholeS zero S s (k + 1) = wholeS zero S s k ++ [.string (strF (S k) s)] := if_neg h

theorem wholeS_len (zero : Bool) (S : Nat → Nat → Nat) (s : Nat) : ∀ k, (wholeS zero S s k).length ≤ k
  | 0 => Nat.le_refl _
  | k + 1 => by
    have := wholeS_len zero S s k
    unfold wholeS
    split
    · simp
    · rw [List.length_append]; simp; omega

theorem wholeS_mem (zero : Bool) (S : Nat → Nat → Nat) (s : Nat) (v : Value) : ∀ k, v ∈ wholeS zero S s k ↔ ∃ r, r < k ∧ ¬ (r = 0 ∧ zero = true) ∧ v = .string (strF (S r) s)
  | 0 => by
    unfold wholeS
    constructor
    · intro h; cases h
    · rintro ⟨r, h, _⟩; omega
  | k + 1 => by
    have ih := wholeS_mem zero S s v k
    by_cases h : k = 0 ∧ zero = true
    · unfold wholeS
      rw [if_pos h]
      constructor
      · intro q; cases q
      · rintro ⟨r, h1, h2, _⟩
        exact absurd ⟨by omega, h.2⟩ h2
    · rw [wholeS_step h, List.mem_append, ih, List.mem_singleton]
      constructor
      · rintro (⟨r, h1, h2, h3⟩ | h3)
        · exact ⟨r, by omega, h2, h3⟩
        · exact ⟨k, by omega, h, h3⟩
      · rintro ⟨r, h1, h2, h3⟩
        rcases Nat.lt_or_ge r k with q | q
        · exact .inl ⟨r, q, h2, h3⟩
        · obtain rfl : r = k := by omega
          exact .inr h3

theorem headF_lt (v i : Nat) : headF v i < 256 := by
  have := leF_lt v i
  unfold headF
  split <;> omega
theorem secF_lt {m v n : Nat} {G : Nat → Nat} (hv : v < 18446744073709551616) (hG : ∀ j, j < n → G j < 256) (i : Nat) : secF m v n G i < 256 := by
  unfold secF
  rw [pairF_at hv]
  split
  · exact headF_lt _ _
  · unfold putF
    split
    · exact Nat.mod_lt _ (by omega)
    · unfold bodyF copyF
      split
      · exact hG _ (by omega)
      · rw [pairF_at hv]
        split
        · exact headF_lt _ _
        · unfold zeroF; omega

/-- What stands there at the end is a sector just where it is one of those that were written. -/
theorem torn_end {s m : Nat} {zero : Bool} {mk : Nat → Int} {nn : Nat → Nat} {F : Nat → Nat → Nat} {cut : Nat → Nat} (h1 : m + 20 ≤ s) (h2 : s ≤ m + 20) (hm : 44 ≤ m) (hc0 : cut 0 = s)
    (hv : ∀ j, j < 3 → ¬ (j = 0 ∧ zero = true) → 1 ≤ mk j ∧ mk j ≤ 4611686018427387904) (n01 : mk 0 ≠ mk 1) (n02 : mk 0 ≠ mk 2) (n12 : mk 1 ≠ mk 2)
    (hT : ∀ i, i < s → nowS zero (fun k => secF m (mk k).toNat (nn k) (F k)) cut 3 i < 256)
    (hS : ∀ r, r < 3 → ¬ (r = 0 ∧ zero = true) → ∀ i, i < s → secF m (mk r).toNat (nn r) (F r) i < 256) :
    okP (nowS zero (fun k => secF m (mk k).toNat (nn k) (F k)) cut 3) m ↔ ∃ r, r < 3 ∧ ¬ (r = 0 ∧ zero = true) ∧ ∀ i, i < s → nowS zero (fun k => secF m (mk k).toNat (nn k) (F k)) cut 3 i = secF m (mk r).toNat (nn r) (F r) i := by
  constructor
  · intro hok
    have e : nowS zero (fun k => secF m (mk k).toNat (nn k) (F k)) cut 3 = tornF (nowS zero (fun k => secF m (mk k).toNat (nn k) (F k)) cut 1) (secF m (mk 1).toNat (nn 1) (F 1)) (secF m (mk 2).toNat (nn 2) (F 2)) (cut 1) (cut 2) := by
      rw [nowS_step (by omega), nowS_step (by omega)]
      rfl
    rw [e] at hok hT ⊢
    have v1 := hv 1 (by omega) (by omega)
    have v2 := hv 2 (by omega) (by omega)
    have b0 : zero = false → ∀ i, i < s → nowS zero (fun k => secF m (mk k).toNat (nn k) (F k)) cut 1 i = secF m (mk 0).toNat (nn 0) (F 0) i := fun hz i hi => by
      rw [nowS_step (by rw [hz]; simp), copyF_in (by omega) (by rw [hc0]; omega), Nat.sub_zero]
    have m0 : zero = false → Marked (nowS zero (fun k => secF m (mk k).toNat (nn k) (F k)) cut 1) m (mk 0).toNat := fun hz => by
      have v0 := hv 0 (by omega) (by rw [hz]; simp)
      have := sec_marked (m := m) (v := (mk 0).toNat) (n := nn 0) (G := F 0) (by omega) (by omega)
      exact ⟨fun i hi => (b0 hz i (by omega)).trans (this.1 i hi), fun i hi => (b0 hz _ (by omega)).trans (this.2 i hi)⟩
    have z0 : zero = true → ∀ i, nowS zero (fun k => secF m (mk k).toNat (nn k) (F k)) cut 1 i = 0 := fun hz i => by
      rw [nowS_skip _ _ _ hz]
      rfl
    have w0 : zero = false → (mk 0).toNat ≤ 4611686018427387904 := fun hz => by
      have v0 := hv 0 (by omega) (by rw [hz]; simp)
      omega
    rcases torn_one (zero := zero) (M0 := if zero then 0 else (mk 0).toNat) hm (fun hz => by rw [if_neg (show ¬ zero = true by rw [hz]; simp)]; exact m0 hz) z0 (sec_marked (by omega) (by omega)) (sec_marked (by omega) (by omega))
      (by cases zero with
        | true => simp
        | false => exact w0 rfl) (by omega) (by omega)
      (fun hz => by have v0 := hv 0 (by omega) (by rw [hz]; simp); rw [hz]; simp; omega)
      (fun hz => by have v0 := hv 0 (by omega) (by rw [hz]; simp); rw [hz]; simp; omega) (by omega) (fun i hi => hT i (by omega)) hok with h | h | ⟨hz, h⟩
    · exact ⟨2, by omega, by omega, fun i hi => h i (by omega)⟩
    · exact ⟨1, by omega, by omega, fun i hi => h i (by omega)⟩
    · exact ⟨0, by omega, by rw [hz]; simp, fun i hi => (h i (by omega)).trans (b0 hz i hi)⟩
  · rintro ⟨r, hr, hz, h⟩
    have hvr := hv r hr hz
    exact okP_congr hm (fun i hi => (h i (by omega)).symm) (sec_ok hm (by omega) (by omega) fun i hi => hS r hr hz i (by omega))
end Go.Proofs.Ytmikemijdglgaaa
/- Acts in memory; light. -/
namespace Go.Proofs.Ytmikemijdglgaaa
open Go.RowKit
set_option linter.unusedVariables false

/-- An act in memory. -/
structure ActAt (w : World) (b o : Nat) (x : ActD) : Prop where
  c0 : w.cell? ⟨b, o, none⟩ = some (.int .i64 x.kind)
  c1 : w.cell? ⟨b, o + 1, none⟩ = some (.int .i64 x.at_)
  c2 : w.cell? ⟨b, o + 2, none⟩ = some (.int .i64 x.len)
  c3 : w.cell? ⟨b, o + 3, none⟩ = some (.int .u8 (x.b : Int))
  c4 : w.cell? ⟨b, o + 4, none⟩ = some (.slice x.fA x.fL x.fC)
theorem ActAt.keep {w w' : World} {b o : Nat} {x : ActD} (h : ActAt w b o x) (e : w'.heap[b]? = w.heap[b]?) : ActAt w' b o x :=
  have k : ∀ i, w'.cell? ⟨b, i, none⟩ = w.cell? ⟨b, i, none⟩ := fun i => World.cell?_of_block (w := w) (a := ⟨b, i, none⟩) e
  ⟨(k _).trans h.c0, (k _).trans h.c1, (k _).trans h.c2, (k _).trans h.c3, (k _).trans h.c4⟩
/-- A slice of acts that can be read. -/
def Acts (w : World) (A : Option Addr) (n : Nat) (X : Nat → ActD) : Prop :=
  n ≤ 9223372036854775807 ∧ (∀ i, i < n → (X i).ok w) ∧ (0 < n → ∃ b o, A = some ⟨b, o, none⟩ ∧ ∀ i, i < n → ActAt w b (o + i * 5) (X i))
def lightB (n : Nat) (X : Nat → ActD) : Bool := decide (n ≤ 40 ∧ ∀ i, i < n → (X i).fL ≤ 60)

end Go.Proofs.Ytmikemijdglgaaa
/- Plain facts on a disk's state. -/
namespace Go.Proofs.Ytmikemijdglgaaa
set_option linter.unusedVariables false

theorem nowTo_out (f : Nat → Nat → Nat) (j : Nat) : ∀ (l : List (Nat × (Nat → Nat))) (now : Nat → Nat → Nat), (∀ x ∈ l, x.1 ≠ j) → nowTo f now l j = now j
  | [], _, _ => rfl
  | x :: r, now, h => by
    show nowTo f (upd now x.1 (f x.1)) r j = now j
    rw [nowTo_out f j r _ fun y hy => h y (List.mem_cons_of_mem _ hy)]
    unfold upd
    rw [if_neg (fun e => h x (List.mem_cons_self ..) e.symm)]
theorem nowTo_keeps (f : Nat → Nat → Nat) (j : Nat) : ∀ (l : List (Nat × (Nat → Nat))) (now : Nat → Nat → Nat), now j = f j → nowTo f now l j = f j
  | [], _, h => h
  | x :: r, now, h => by
    refine nowTo_keeps f j r (upd now x.1 (f x.1)) ?_
    unfold upd
    by_cases e : j = x.1
    · rw [if_pos e, e]
    · rw [if_neg e, h]
theorem nowTo_in (f : Nat → Nat → Nat) (j : Nat) : ∀ (l : List (Nat × (Nat → Nat))) (now : Nat → Nat → Nat), (∃ x ∈ l, x.1 = j) → nowTo f now l j = f j
  | [], _, h => by obtain ⟨_, h, _⟩ := h; cases h
  | x :: r, now, h => by
    show nowTo f (upd now x.1 (f x.1)) r j = f j
    by_cases e : x.1 = j
    · refine nowTo_keeps f j r _ ?_
      unfold upd
      rw [if_pos e.symm, e]
    · refine nowTo_in f j r _ ?_
      obtain ⟨y, hy, hj⟩ := h
      rcases List.mem_cons.1 hy with rfl | hy
      · exact absurd hj e
      · exact ⟨y, hy, hj⟩
theorem fastTo_out (j : Nat) : ∀ (l : List (Nat × (Nat → Nat))) (f : Nat → Nat → Nat), (∀ x ∈ l, x.1 ≠ j) → fastTo f l j = f j
  | [], _, _ => rfl
  | x :: r, f, h => by
    show fastTo (upd f x.1 x.2) r j = f j
    rw [fastTo_out j r _ fun y hy => h y (List.mem_cons_of_mem _ hy)]
    unfold upd
    rw [if_neg (fun e => h x (List.mem_cons_self ..) e.symm)]
theorem fastTo_snoc (f : Nat → Nat → Nat) (l : List (Nat × (Nat → Nat))) (x : Nat × (Nat → Nat)) : fastTo f (l ++ [x]) = upd (fastTo f l) x.1 x.2 := by
  unfold fastTo
  rw [List.foldl_append]
  rfl
theorem crashTo_out (S : DS) (fa : Nat → Int) (L j : Nat) (h : ∀ x ∈ S.loose, x.1 ≠ j) : ∀ k, (crashTo S fa L k).1 j = S.fast j
  | 0 => rfl
  | k + 1 => by
    have ih := crashTo_out S fa L j h k
    simp only [crashTo]
    split
    · exact ih
    · rename_i x hx
      have hm : x.1 ≠ j := h x (List.mem_of_getElem? hx)
      have hu : ∀ G : Nat → Nat, upd (crashTo S fa L k).1 x.1 G j = (crashTo S fa L k).1 j := fun G => by
        unfold upd
        rw [if_neg (fun e => hm e.symm)]
      split
      · exact (hu _).trans ih
      · split
        · exact (hu _).trans ih
        · exact ih

section
variable (S : DS) (x : ActD)
theorem flushD_N : (flushD S).N = S.N := by unfold flushD flushS; split <;> (try split) <;> simp [strikeS_N]
theorem flushD_size : (flushD S).size = S.size := by unfold flushD flushS; split <;> (try split) <;> simp [strikeS_size]
theorem putS_N (a : Int) (n : Nat) (F : Nat → Nat) : (putS S a n F).N = S.N := by unfold putS; split <;> simp [strikeS_N, keepS]
theorem putS_size (a : Int) (n : Nat) (F : Nat → Nat) : (putS S a n F).size = S.size := by unfold putS; split <;> simp [strikeS_size, keepS]
theorem didS_N : (didS S x).N = S.N := by
  unfold didS
  split
  · exact flushD_N S
  · split
    · rfl
    · split
      · rfl
      · split
        · rfl
        · exact putS_N ..
theorem didS_size : (didS S x).size = S.size := by
  unfold didS
  split
  · exact flushD_size S
  · split
    · rfl
    · split
      · rfl
      · split
        · rfl
        · exact putS_size ..
theorem didS_len : (didS S x).loose.length ≤ S.loose.length + 1 := by
  unfold didS
  split
  · unfold flushD flushS; split
    · omega
    · split
      · rw [strikeS_loose]; omega
      · simp
  · split
    · omega
    · split
      · simp [armS]
      · split
        · simp [crashS]
        · unfold putS; split
          · omega
          · rw [strikeS_loose]; simp [keepS]
end

/-- What is read is what was written last, loose or fast. -/
def NowInv (S : DS) : Prop := ∀ j, S.now j = fastTo S.fast S.loose j
theorem NowInv.strike {S : DS} (h : NowInv S) : NowInv (strikeS S) := fun j => by rw [strikeS_now, strikeS_fast, strikeS_loose]; exact h j
theorem NowInv.keep {S : DS} (h : NowInv S) (k : Nat) (F : Nat → Nat) : NowInv (keepS S k F) := fun j => by
  show upd S.now k F j = fastTo S.fast (S.loose ++ [(k, F)]) j
  rw [fastTo_snoc]
  unfold upd
  by_cases e : j = k
  · rw [if_pos e, if_pos e]
  · rw [if_neg e, if_neg e]; exact h j
theorem NowInv.flush {S : DS} (h : NowInv S) : NowInv (flushS S) := fun j => by
  show (strikeS S).now j = fastTo (fastTo S.fast S.loose) [] j
  rw [strikeS_now]
  exact h j
theorem NowInv.crash {S : DS} (h : NowInv S) (fa : Nat → Int) (L : Nat) : NowInv (crashS S fa L) := fun j => by
  show nowTo (crashTo S fa L S.loose.length).1 S.now S.loose j = (crashTo S fa L S.loose.length).1 j
  by_cases e : ∃ x ∈ S.loose, x.1 = j
  · exact nowTo_in _ j _ _ e
  · have e2 : ∀ x ∈ S.loose, x.1 ≠ j := fun x hx q => e ⟨x, hx, q⟩
    rw [nowTo_out _ j _ _ e2, crashTo_out S fa L j e2, h j, fastTo_out j _ _ e2]
theorem NowInv.did {S : DS} (h : NowInv S) (x : ActD) : NowInv (didS S x) := by
  unfold didS
  split
  · unfold flushD; split
    · exact h
    · split
      · exact h.strike
      · exact h.flush
  · split
    · exact h
    · split
      · exact h
      · split
        · exact h.crash _ _
        · unfold putS; split
          · exact h
          · exact (h.keep _ _).strike
theorem NowInv.new (N size : Nat) : NowInv (newS N size) := fun _ => rfl

/-- Sector k holds F, fast, and nothing loose is for it. -/
structure Fast (k : Nat) (F : Nat → Nat) (S : DS) : Prop where
  l : ∀ x ∈ S.loose, x.1 ≠ k
  f : S.fast k = F
  n : S.now k = F
section
variable {k : Nat} {F : Nat → Nat} {S : DS}
theorem Fast.strike (h : Fast k F S) : Fast k F (strikeS S) := ⟨by rw [strikeS_loose]; exact h.l, by rw [strikeS_fast]; exact h.f, by rw [strikeS_now]; exact h.n⟩
theorem Fast.keep (h : Fast k F S) (j : Nat) (G : Nat → Nat) (hj : j ≠ k) : Fast k F (keepS S j G) := by
  refine ⟨fun x hx => ?_, h.f, ?_⟩
  · rcases List.mem_append.1 (show x ∈ S.loose ++ [(j, G)] from hx) with q | q
    · exact h.l x q
    · rw [List.mem_singleton.1 q]; exact hj
  · show upd S.now j G k = F
    unfold upd
    rw [if_neg (fun e => hj e.symm)]
    exact h.n
theorem Fast.flush (h : Fast k F S) : Fast k F (flushS S) := by
  refine ⟨fun x hx => ?_, ?_, ?_⟩
  · cases hx
  · show fastTo S.fast S.loose k = F
    rw [fastTo_out k _ _ h.l]; exact h.f
  · show (strikeS S).now k = F
    rw [strikeS_now]; exact h.n
theorem Fast.crash (h : Fast k F S) (fa : Nat → Int) (L : Nat) : Fast k F (crashS S fa L) := by
  refine ⟨fun x hx => ?_, ?_, ?_⟩
  · cases hx
  · exact (crashTo_out S fa L k h.l _).trans h.f
  · exact (nowTo_out _ k _ _ h.l).trans h.n
theorem Fast.did (h : Fast k F S) (x : ActD) (hx : x.at_ ≠ k) : Fast k F (didS S x) := by
  unfold didS
  split
  · unfold flushD; split
    · exact h
    · split
      · exact h.strike
      · exact h.flush
  · split
    · exact h
    · split
      · exact ⟨h.l, h.f, h.n⟩
      · split
        · exact h.crash _ _
        · unfold putS; split
          · exact h
          · rename_i q
            have r0 : reachI S x.at_ = 0 := by
              by_cases e : reachI S x.at_ = 0
              · exact e
              · exact absurd (.inl e) q
            have := reach_in r0
            exact (h.keep _ _ (by omega)).strike
theorem Fast.of_flush (h : NowInv S) (k : Nat) : Fast k (S.now k) (flushS S) := ⟨fun x hx => (by cases hx), (h k).symm, (by show (strikeS S).now k = _; rw [strikeS_now])⟩
end

/-- Acts, one behind the other; all but those at one place. -/
def runS (S0 : DS) (X : Nat → ActD) : Nat → DS
  | 0 => S0
  | k + 1 => didS (runS S0 X k) (X k)
def runF (S0 : DS) (X : Nat → ActD) (at_ : Nat) : Nat → DS
  | 0 => S0
  | k + 1 => if (X k).at_ = at_ then runF S0 X at_ k else didS (runF S0 X at_ k) (X k)
theorem runS_N (S0 : DS) (X : Nat → ActD) : ∀ k, (runS S0 X k).N = S0.N ∧ (runS S0 X k).size = S0.size ∧ (runS S0 X k).loose.length ≤ S0.loose.length + k
  | 0 => ⟨rfl, rfl, Nat.le_refl _⟩
  | k + 1 => by
    obtain ⟨h1, h2, h3⟩ := runS_N S0 X k
    have := didS_len (runS S0 X k) (X k)
    exact ⟨(didS_N _ _).trans h1, (didS_size _ _).trans h2, by show (didS _ _).loose.length ≤ _; omega⟩
theorem runF_N (S0 : DS) (X : Nat → ActD) (a : Nat) : ∀ k, (runF S0 X a k).N = S0.N ∧ (runF S0 X a k).size = S0.size ∧ (runF S0 X a k).loose.length ≤ S0.loose.length + k
  | 0 => ⟨rfl, rfl, Nat.le_refl _⟩
  | k + 1 => by
    obtain ⟨h1, h2, h3⟩ := runF_N S0 X a k
    have := didS_len (runF S0 X a k) (X k)
    unfold runF
    split
    · exact ⟨h1, h2, by omega⟩
    · exact ⟨(didS_N _ _).trans h1, (didS_size _ _).trans h2, by omega⟩
theorem runS_inv {S0 : DS} (h : NowInv S0) (X : Nat → ActD) : ∀ k, NowInv (runS S0 X k)
  | 0 => h
  | k + 1 => (runS_inv h X k).did _
theorem runF_fast {S0 : DS} {a : Nat} {F : Nat → Nat} (h : Fast a F S0) (X : Nat → ActD) : ∀ k, Fast a F (runF S0 X a k)
  | 0 => h
  | k + 1 => by
    have ih := runF_fast h X k
    unfold runF
    split
    · exact ih
    · rename_i q
      exact ih.did _ q
end Go.Proofs.Ytmikemijdglgaaa
/- Plain facts on slots: what a written one is read as; torn ones. -/
namespace Go.Proofs.Ytmikemijdglgaaa
open Go.RowKit
set_option linter.unusedVariables false
set_option linter.unusedSimpArgs false

/-- The sector of a change in a slot of an epoch. -/
abbrev chSec (sz ep i page : Nat) (last : Bool) (G : Nat → Nat) : Nat → Nat := secF (sz - 20) (mkN ep i) (9 + (sz - 45)) (loadF page last G)
theorem mkN_lt {ep i : Nat} (he : ep ≤ 1099511627776) (hi : i ≤ 1048576) : 1 ≤ mkN ep i ∧ mkN ep i ≤ 4611686018427387904 := by unfold mkN; omega
theorem mkN_div {ep i : Nat} (hi : i ≤ 1048576) : mkN ep i / 2097152 = ep := by unfold mkN; omega
section
variable {sz ep i page : Nat} {last : Bool} {G : Nat → Nat}
theorem chSec_lt (he : ep ≤ 1099511627776) (hi : i ≤ 1048576) (hG : ∀ j, G j < 256) (k : Nat) : chSec sz ep i page last G k < 256 :=
  secF_lt (by have := (mkN_lt (i := i) he hi).2; omega) (loadF_lt fun j _ => hG j) k
theorem chSec_ok (hs : 64 ≤ sz) (he : ep ≤ 1099511627776) (hi : i ≤ 1048576) (hG : ∀ j, G j < 256) : okP (chSec sz ep i page last G) (sz - 20) :=
  sec_ok (by omega) (mkN_lt he hi).1 (mkN_lt he hi).2 fun k _ => chSec_lt he hi hG k
theorem chSec_mark (hs : 64 ≤ sz) (he : ep ≤ 1099511627776) (hi : i ≤ 1048576) : leTo (chSec sz ep i page last G) 8 = mkN ep i :=
  sec_mark (by have := (mkN_lt (i := i) he hi).2; omega) (by omega)
theorem chSec_epoch (hs : 64 ≤ sz) (he1 : 1 ≤ ep) (he : ep ≤ 1099511627776) (hi : i ≤ 1048576) (hG : ∀ j, G j < 256) : epochN (chSec sz ep i page last G) (sz - 20) i = ep := by
  have q := chSec_mark (page := page) (last := last) (G := G) hs he hi
  have := epoch_yes (chSec_ok (page := page) (last := last) hs he hi hG) (i := i) (by rw [q, mkN_div hi]; exact ⟨he1, he⟩) (by rw [q, mkN_div hi])
  rw [this, q, mkN_div hi]
theorem chSec_load (hs : 64 ≤ sz) (he : ep ≤ 1099511627776) (hi : i ≤ 1048576) {j : Nat} (hj : j < sz - 36) : chSec sz ep i page last G (16 + j) = loadF page last G j := by
  have := secF_load (m := sz - 20) (v := mkN ep i) (n := 9 + (sz - 45)) (G := loadF page last G) (by have := (mkN_lt (i := i) he hi).2; omega) (i := 16 + j) (by omega) (by omega) (by omega)
  rw [Nat.add_sub_cancel_left] at this
  exact this
theorem chSec_page (hs : 64 ≤ sz) (he : ep ≤ 1099511627776) (hi : i ≤ 1048576) (hp : page ≤ 2147483647) : pageI (chSec sz ep i page last G) = page := by
  have e : leTo (fun j => chSec sz ep i page last G (16 + j)) 8 = page := by
    have e8 : (256 : Nat) ^ 8 = 18446744073709551616 := by decide
    refine leTo_eq (by rw [e8]; omega) fun j hj => ?_
    rw [chSec_load hs he hi (by omega)]
    unfold loadF
    rw [if_pos hj]
  unfold pageI takeI
  rw [e]
  exact wrap_small (by omega)
theorem chSec_flag (hs : 64 ≤ sz) (he : ep ≤ 1099511627776) (hi : i ≤ 1048576) : flagN (chSec sz ep i page last G) = if last then 1 else 0 := by
  unfold flagN
  rw [chSec_load (j := 8) hs he hi (by omega)]
  unfold loadF
  rw [if_neg (by omega), if_pos rfl]
theorem chSec_bytes (hs : 64 ≤ sz) (he : ep ≤ 1099511627776) (hi : i ≤ 1048576) {j : Nat} (hj : j < sz - 45) : chSec sz ep i page last G (25 + j) = G j := by
  rw [show 25 + j = 16 + (9 + j) by omega, chSec_load hs he hi (by omega)]
  unfold loadF
  rw [if_neg (by omega), if_neg (by omega), Nat.add_sub_cancel_left]
theorem chSec_ch (hs : 64 ≤ sz) (he1 : 1 ≤ ep) (he : ep ≤ 1099511627776) (hi : i ≤ 1048576) (hG : ∀ j, G j < 256) (hp : page ≤ 2147483647) : isCh (chSec sz ep i page last G) (sz - 20) i ep :=
  ⟨chSec_epoch hs he1 he hi hG, by rw [chSec_page hs he hi hp]; omega, by rw [chSec_page hs he hi hp]; omega, by rw [chSec_flag hs he hi]; split <;> omega⟩
end
/-- A slot's bytes count alone. -/
theorem epoch_congr {F H : Nat → Nat} {m i : Nat} (hm : 44 ≤ m) (h : ∀ k, k < m + 20 → F k = H k) : epochN F m i = epochN H m i := by
  have e : leTo F 8 = leTo H 8 := leTo_congr fun k hk => h k (by omega)
  have k : okP F m ↔ okP H m := ⟨okP_congr hm h, okP_congr hm fun k hk => (h k hk).symm⟩
  unfold epochN
  rw [e]
  by_cases q : okP F m
  · rw [if_pos q, if_pos (k.1 q)]
  · rw [if_neg q, if_neg fun z => q (k.2 z)]
theorem ch_congr {F H : Nat → Nat} {m i ep : Nat} (hm : 44 ≤ m) (h : ∀ k, k < m + 20 → F k = H k) : isCh F m i ep ↔ isCh H m i ep := by
  have e1 : pageI F = pageI H := by unfold pageI takeI; rw [leTo_congr fun k hk => h (16 + k) (by omega)]
  have e2 : flagN F = flagN H := h 24 (by omega)
  unfold isCh
  rw [epoch_congr hm h, e1, e2]
theorem epoch_zero {F : Nat → Nat} {m i : Nat} (hm : 44 ≤ m) (h : ∀ k, k < m + 20 → F k = 0) : epochN F m i = 0 := by
  refine epoch_bad fun q => ?_
  have : leTo F 8 = 0 := by
    have e : leTo F 8 = leTo (fun _ => 0) 8 := leTo_congr fun k hk => h k (by omega)
    rw [e]; rfl
  have := q.1.1
  omega
/-- The first piece of a sector upon zeros, or upon a sector of another mark: what is read as a sector is one of them. -/
theorem torn_new {m M0 M1 c : Nat} {base S1 : Nat → Nat} {zero : Bool} (hm : 44 ≤ m)
    (h0 : zero = false → Marked base m M0) (hz : zero = true → ∀ i, i < m + 20 → base i = 0) (h1 : Marked S1 m M1)
    (v0 : M0 ≤ 4611686018427387904) (v1 : M1 ≤ 4611686018427387904) (n01 : zero = false → M0 ≠ M1)
    (hF : ∀ i, i < m + 20 → copyF base 0 c S1 i < 256) (hok : okP (copyF base 0 c S1) m) :
    (∀ i, i < m + 20 → copyF base 0 c S1 i = S1 i) ∨ (zero = false ∧ ∀ i, i < m + 20 → copyF base 0 c S1 i = base i) := by
  obtain ⟨hh, ht⟩ := ok_head hm hF hok
  have hv2 := hok.1.2
  generalize leTo (copyF base 0 c S1) 8 = v at hh ht hv2
  have hv : v < 18446744073709551616 := by omega
  have at_ : ∀ i, copyF base 0 c S1 i = if i < c then S1 i else base i := fun i => by
    unfold copyF
    simp only [Nat.zero_le, true_and, Nat.zero_add, Nat.sub_zero]
  simp only [at_] at hh ht ⊢
  by_cases d : m + 12 ≤ c
  · have e1 : v = M1 := low_eq hv (by omega) fun i hi => by
      have := ht i (by omega)
      rw [if_pos (by omega)] at this
      rw [this, h1.2 i (by omega)]
    refine .inl fun i hi => ?_
    by_cases y : i < c
    · rw [if_pos y]
    · obtain ⟨k, rfl⟩ : ∃ k, i = m + 4 + k := ⟨i - (m + 4), by omega⟩
      rw [← ht k (by omega), e1, h1.2 k (by omega)]
  · have base_high : zero = false ∧ v = M0 := by
      have h : ∀ i, 8 ≤ i → i < 16 → headF v i = base (m + 4 + i) := fun i x y => by
        have := ht i y
        rw [if_neg (by omega)] at this
        exact this
      cases zero with
      | true => exact absurd (fun i a b => (h i a b).trans (hz rfl _ (by omega))) (fun q => high_zero hv2 q)
      | false => exact ⟨rfl, high_eq hv (by omega) fun i a b => (h i a b).trans ((h0 rfl).2 i b)⟩
    by_cases f : 16 ≤ c
    · have e1 : v = M1 := low_eq hv (by omega) fun i hi => by
        have := hh i (by omega)
        rw [if_pos (by omega)] at this
        rw [this, h1.1 i (by omega)]
      exact absurd (base_high.2.symm.trans e1) (n01 base_high.1)
    · refine .inr ⟨base_high.1, fun i hi => ?_⟩
      by_cases x : i < 16
      · rw [← hh i x, base_high.2, (h0 base_high.1).1 i x]
      · rw [if_neg (by omega)]
/-- What a slot held ahead of an epoch: zeros, or a sector of an elder epoch and that slot. -/
def Elder (sz ep i : Nat) (F : Nat → Nat) : Prop := (∀ k, k < sz → F k = 0) ∨ ∃ e, 1 ≤ e ∧ e < ep ∧ (∀ k, k < sz → F k < 256) ∧ Marked F (sz - 20) (mkN e i)
theorem mkN_ne {e ep i : Nat} (h : e < ep) : mkN e i ≠ mkN ep i := by unfold mkN; omega
theorem leTo_marked {F : Nat → Nat} {m M : Nat} (hM : M ≤ 4611686018427387904) (h : Marked F m M) : leTo F 8 = M :=
  leTo_head (v := M) (by omega) fun i hi => (h.1 i (by omega)).symm
theorem epoch_or (F : Nat → Nat) (m i : Nat) : epochN F m i = 0 ∨ epochN F m i = leTo F 8 / 2097152 := by
  unfold epochN
  split
  · split
    · exact .inr rfl
    · exact .inl rfl
  · exact .inl rfl
theorem elder_epoch {sz ep i e' : Nat} {F : Nat → Nat} (hs : 64 ≤ sz) (he : ep ≤ 1099511627776) (hi : i ≤ 1048576) (h : Elder sz ep i F) (h1 : ep ≤ e') (h0 : 1 ≤ e') : epochN F (sz - 20) i ≠ e' := by
  rcases h with h | ⟨e, h2, h3, h4, h5⟩
  · rw [epoch_zero (by omega) fun k hk => h k (by omega)]
    omega
  · rcases epoch_or F (sz - 20) i with q | q
    · omega
    · rw [q, leTo_marked (mkN_lt (by omega) hi).2 h5, mkN_div hi]
      omega
theorem elder_no {sz ep i e' : Nat} {F : Nat → Nat} (hs : 64 ≤ sz) (he : ep ≤ 1099511627776) (hi : i ≤ 1048576) (h : Elder sz ep i F) (h1 : ep ≤ e') (h0 : 1 ≤ e') : ¬ isCh F (sz - 20) i e' := fun q => elder_epoch hs he hi h h1 h0 q.1
theorem elder_sec {sz e ep i page : Nat} {last : Bool} {G : Nat → Nat} (hs : 64 ≤ sz) (he : e ≤ 1099511627776) (h1 : 1 ≤ e) (hep : e < ep) (hi : i ≤ 1048576) (hG : ∀ j, G j < 256) : Elder sz ep i (chSec sz e i page last G) :=
  .inr ⟨e, h1, hep, fun k _ => chSec_lt he hi hG k, sec_marked (by have := (mkN_lt (i := i) he hi).2; omega) (by omega)⟩
/-- What a torn write over an elder slot is read as, in the newer epoch: all of it, or none. -/
theorem torn_ch {sz ep i page c : Nat} {last : Bool} {G base : Nat → Nat} (hs : 64 ≤ sz) (h1 : 1 ≤ ep) (he : ep ≤ 1099511627776) (hi : i ≤ 1048576) (hG : ∀ j, G j < 256) (hb : Elder sz ep i base) (hch : isCh (copyF base 0 c (chSec sz ep i page last G)) (sz - 20) i ep) :
    ∀ k, k < sz → copyF base 0 c (chSec sz ep i page last G) k = chSec sz ep i page last G k := by
  have hlt : ∀ k, k < sz → copyF base 0 c (chSec sz ep i page last G) k < 256 := fun k hk => by
    unfold copyF
    split
    · exact chSec_lt he hi hG _
    · rcases hb with h | ⟨e, _, _, h, _⟩
      · rw [h k hk]; omega
      · exact h k hk
  have hok : okP (copyF base 0 c (chSec sz ep i page last G)) (sz - 20) := Classical.byContradiction fun q => by
    have := hch.1
    rw [epoch_bad q] at this
    omega
  have hm1 : Marked (chSec sz ep i page last G) (sz - 20) (mkN ep i) := sec_marked (by have := (mkN_lt (i := i) he hi).2; omega) (by omega)
  have hmm := mkN_lt (i := i) he hi
  rcases hb with h | ⟨e, h2, h3, h4, h5⟩
  · rcases torn_new (M0 := 0) (zero := true) (m := sz - 20) (by omega) (fun q => by cases q) (fun _ k hk => h k (by omega)) hm1 (by omega) hmm.2 (fun q => by cases q) (fun k hk => hlt k (by omega)) hok with q | ⟨q, _⟩
    · exact fun k hk => q k (by omega)
    · cases q
  · rcases torn_new (M0 := mkN e i) (zero := false) (m := sz - 20) (by omega) (fun _ => h5) (fun q => by cases q) hm1 (mkN_lt (by omega) hi).2 hmm.2 (fun _ => mkN_ne h3) (fun k hk => hlt k (by omega)) hok with q | ⟨_, q⟩
    · exact fun k hk => q k (by omega)
    · refine absurd hch ?_
      rw [ch_congr (by omega) q]
      exact elder_no hs (by omega) hi (.inr ⟨e, h2, h3, h4, h5⟩) (Nat.le_refl _) h1
/-- A torn write over an elder slot, or zeros, is no slot of a still newer epoch. -/
theorem torn_elder {sz e ep i page c : Nat} {last : Bool} {G base : Nat → Nat} (hs : 64 ≤ sz) (h1 : 1 ≤ e) (hep : e < ep) (he : ep ≤ 1099511627776) (hi : i ≤ 1048576) (hG : ∀ j, G j < 256) (hb : ∀ k, k < sz → base k = 0) :
    ¬ isCh (copyF base 0 c (chSec sz e i page last G)) (sz - 20) i ep := fun hch => by
  have hlt : ∀ k, k < sz → copyF base 0 c (chSec sz e i page last G) k < 256 := fun k hk => by
    unfold copyF
    split
    · exact chSec_lt (by omega) hi hG _
    · rw [hb k hk]; omega
  have hok : okP (copyF base 0 c (chSec sz e i page last G)) (sz - 20) := Classical.byContradiction fun q => by
    have := hch.1
    rw [epoch_bad q] at this
    omega
  have hm1 : Marked (chSec sz e i page last G) (sz - 20) (mkN e i) := sec_marked (by have := (mkN_lt (ep := e) (i := i) (by omega) hi).2; omega) (by omega)
  rcases torn_new (M0 := 0) (zero := true) (m := sz - 20) (by omega) (fun q => by cases q) (fun _ k hk => hb k (by omega)) hm1 (by omega) (mkN_lt (by omega) hi).2 (fun q => by cases q) (fun k hk => hlt k (by omega)) hok with q | ⟨q, _⟩
  · rw [ch_congr (by omega) q] at hch
    exact elder_no hs (by omega) hi (elder_sec (page := page) (last := last) hs (by omega) h1 hep hi hG) (Nat.le_refl _) (by omega) hch
  · cases q
end Go.Proofs.Ytmikemijdglgaaa
/- A log as a machine, plain: what groups make of a disk, what a crash leaves of them. -/
namespace Go.Proofs.Ytmikemijdglgaaa
open Go.RowKit
set_option linter.unusedVariables false
set_option linter.unusedSimpArgs false

/-- A log that goes on, on a disk that is up and has nothing loose. -/
structure Alive (f cn : Nat) (L : LS) : Prop where
  dd : L.dead = false
  dn : L.S.down = false
  lo : L.S.loose = []
  nf : ∀ j, L.S.now j = L.S.fast j
  nx : L.nx ≤ cn
  sz : 64 ≤ L.S.size ∧ L.S.size ≤ 4096
  N : f + cn ≤ L.S.N
/-- What k sectors, one behind the other, leave. -/
structure Wrote (a : Nat) (sec : Nat → Nat → Nat) (S : DS) (k : Nat) (T : DS) : Prop where
  lo : T.loose = S.loose ++ (List.range k).map fun j => (a + j, sec j)
  fast : T.fast = S.fast
  at_ : ∀ j, j < k → T.now (a + j) = sec j
  out : ∀ j, (∀ i, i < k → j ≠ a + i) → T.now j = S.now j
  size : T.size = S.size
  N : T.N = S.N
theorem Wrote.zero (a : Nat) (sec : Nat → Nat → Nat) (S : DS) : Wrote a sec S 0 S := ⟨by simp, rfl, fun j h => absurd h (by omega), fun _ _ => rfl, rfl, rfl⟩
theorem Wrote.keep {a k : Nat} {sec : Nat → Nat → Nat} {S T : DS} (h : Wrote a sec S k T) : Wrote a sec S (k + 1) (strikeS (keepS T (a + k) (sec k))) := by
  refine ⟨?_, ?_, fun j hj => ?_, fun j hj => ?_, ?_, ?_⟩
  · rw [strikeS_loose]
    show T.loose ++ [(a + k, sec k)] = _
    rw [h.lo, List.range_succ, List.map_append, List.append_assoc]
    rfl
  · rw [strikeS_fast]; exact h.fast
  · rw [strikeS_now]
    show upd T.now (a + k) (sec k) (a + j) = _
    unfold upd
    by_cases e : j = k
    · subst e; rw [if_pos rfl]
    · rw [if_neg (by omega)]; exact h.at_ j (by omega)
  · rw [strikeS_now]
    show upd T.now (a + k) (sec k) j = _
    unfold upd
    rw [if_neg (hj k (by omega))]
    exact h.out j fun i hi => hj i (by omega)
  · rw [strikeS_size]; exact h.size
  · rw [strikeS_N]; exact h.N
theorem put_in {S : DS} {a : Nat} {F : Nat → Nat} (hd : S.down = false) (ha : a < S.N) : putS S (a : Int) S.size F = strikeS (keepS S a F) ∧ putI S (a : Int) S.size F = strikeI (keepS S a F) := by
  have e : reachI S (a : Int) = 0 := by
    unfold reachI
    rw [if_neg (by rw [hd]; decide), if_neg (by omega)]
  unfold putS putI
  rw [if_neg (fun q => q.elim (fun z => z e) fun z => z rfl), if_neg (fun q => q e), if_neg (fun q => q rfl)]
  exact ⟨rfl, rfl⟩
theorem strike_zero {S : DS} (h : strikeI S = 0) (hd : S.down = false) : (strikeS S).down = false := by
  unfold strikeI at h
  unfold strikeS
  split
  · exact hd
  · split
    · rename_i q; rw [if_pos q] at h; cases h
    · exact hd
theorem strike_four {S : DS} (h : strikeI S ≠ 0) : strikeI S = 4 ∧ (strikeS S).down = true := by
  unfold strikeI at h ⊢
  unfold strikeS
  by_cases q : S.armed = 1
  · rw [if_pos q, if_neg (by omega), if_pos q]; exact ⟨rfl, rfl⟩
  · rw [if_neg q] at h; exact absurd rfl h
theorem wr_all {a : Nat} {sec : Nat → Nat → Nat} {S : DS} (hd : S.down = false) : ∀ k, a + k ≤ S.N → (∀ j, j < k → wrI a S.size sec S j = 0) → Wrote a sec S k (wrS a S.size sec S k) ∧ (wrS a S.size sec S k).down = false
  | 0, _, _ => ⟨Wrote.zero _ _ _, hd⟩
  | k + 1, hk, h => by
    obtain ⟨h1, h2⟩ := wr_all hd k (by omega) fun j hj => h j (by omega)
    have q := h k (by omega)
    have p := put_in (S := wrS a S.size sec S k) (a := a + k) (F := sec k) h2 (by rw [h1.N]; omega)
    rw [h1.size] at p
    have e1 : wrS a S.size sec S (k + 1) = strikeS (keepS (wrS a S.size sec S k) (a + k) (sec k)) := p.1
    have e2 : wrI a S.size sec S k = strikeI (keepS (wrS a S.size sec S k) (a + k) (sec k)) := p.2
    rw [e1]
    rw [e2] at q
    exact ⟨h1.keep, strike_zero q h2⟩
theorem wr_last {a k : Nat} {sec : Nat → Nat → Nat} {S : DS} (hd : S.down = false) (hk : a + (k + 1) ≤ S.N) (h : ∀ j, j < k → wrI a S.size sec S j = 0) (hne : wrI a S.size sec S k ≠ 0) : Wrote a sec S (k + 1) (wrS a S.size sec S (k + 1)) ∧ wrI a S.size sec S k = 4 := by
  obtain ⟨h1, h2⟩ := wr_all hd k (by omega) h
  have p := put_in (S := wrS a S.size sec S k) (a := a + k) (F := sec k) h2 (by rw [h1.N]; omega)
  rw [h1.size] at p
  have e1 : wrS a S.size sec S (k + 1) = strikeS (keepS (wrS a S.size sec S k) (a + k) (sec k)) := p.1
  have e2 : wrI a S.size sec S k = strikeI (keepS (wrS a S.size sec S k) (a + k) (sec k)) := p.2
  rw [e1]
  rw [e2] at hne ⊢
  exact ⟨h1.keep, (strike_four hne).1⟩
/-- A log whose disk went down while the k-th sector of a group was written, or behind all. -/
structure Fell (f ep : Nat) (L0 : LS) (n : Nat) (P : Nat → PutD) (L : LS) (k : Nat) : Prop where
  dd : L.dead = true
  k1 : 1 ≤ k
  kn : k ≤ n
  w : Wrote (f + L0.nx) (secL ep L0 n P) L0.S k L.S
theorem fastTo_get {j : Nat} : ∀ (l : List (Nat × (Nat → Nat))) (g : Nat → Nat → Nat) (F : Nat → Nat), (∀ x ∈ l, x.1 = j → x.2 = F) → (∃ x ∈ l, x.1 = j) → fastTo g l j = F
  | [], _, _, _, h => by obtain ⟨x, hx, _⟩ := h; cases hx
  | y :: l, g, F, h, he => by
    show fastTo (upd g y.1 y.2) l j = F
    by_cases q : ∃ x ∈ l, x.1 = j
    · exact fastTo_get l _ F (fun x hx => h x (List.mem_cons_of_mem _ hx)) q
    · rw [fastTo_out j l _ fun x hx e => q ⟨x, hx, e⟩]
      obtain ⟨x, hx, e⟩ := he
      rcases List.mem_cons.1 hx with rfl | hx
      · unfold upd
        rw [if_pos e.symm]
        exact h x List.mem_cons_self e
      · exact absurd ⟨x, hx, e⟩ q
theorem refuse_four (dead : Bool) (n : Nat) (X : Nat → ChD) (room left : Int) : refuseI dead n X room left ≠ 4 := by
  rcases refuse_or dead n X room left with h | h | h | h | h <;> rw [h] <;> decide
theorem app_dead {f cn ep n : Nat} {L : LS} {P : Nat → PutD} (h : L.dead = true) : appT f cn ep L n P = (21, L) := by
  have e : appR cn L n P = 21 := if_pos h
  rw [appT_no (by rw [e]; decide), e]
theorem fell_nx {f cn ep n : Nat} {L : LS} {P : Nat → PutD} (h0 : appR cn L n P = 0) (hd : (appT f cn ep L n P).2.dead = true) : (appT f cn ep L n P).2.nx = L.nx := by
  unfold appT at hd ⊢
  rw [if_neg (by rw [h0]; exact fun q => q rfl)] at hd ⊢
  split at hd
  · rfl
  · dsimp only at hd ⊢
    rw [if_neg (by simpa using hd)]
/-- What Append makes of a log that goes on. -/
theorem app_cases {f cn ep n : Nat} {L : LS} {P : Nat → PutD} (h : Alive f cn L) :
    (appR cn L n P ≠ 0 ∧ appR cn L n P ≠ 4 ∧ appT f cn ep L n P = (appR cn L n P, L)) ∨
    (appR cn L n P = 0 ∧ (appT f cn ep L n P).1 = 0 ∧ Alive f cn (appT f cn ep L n P).2 ∧ (appT f cn ep L n P).2.nx = L.nx + n ∧ (appT f cn ep L n P).2.S.size = L.S.size ∧ (appT f cn ep L n P).2.S.N = L.S.N ∧
      (∀ j, j < n → (appT f cn ep L n P).2.S.now (f + L.nx + j) = secL ep L n P j) ∧ (∀ j, (∀ i, i < n → j ≠ f + L.nx + i) → (appT f cn ep L n P).2.S.now j = L.S.now j)) ∨
    (appR cn L n P = 0 ∧ (appT f cn ep L n P).1 = 4 ∧ ∃ k, Fell f ep L n P (appT f cn ep L n P).2 k) := by
  by_cases h0 : appR cn L n P = 0
  · have h45 : 45 ≤ L.S.size := by have := h.sz.1; omega
    obtain ⟨z1, z2, z3, z4, z5⟩ := appR_zero h0 h45
    have hN := h.N
    by_cases hf : ∃ k, k < n ∧ wrI (f + L.nx) L.S.size (secL ep L n P) L.S k ≠ 0
    · -- the first that fails
      obtain ⟨k, hk, hke, hmin⟩ : ∃ k, k < n ∧ wrI (f + L.nx) L.S.size (secL ep L n P) L.S k ≠ 0 ∧ ∀ j, j < k → wrI (f + L.nx) L.S.size (secL ep L n P) L.S j = 0 := by
        obtain ⟨k, hk⟩ := hf
        induction k using Nat.strongRecOn with
        | _ k ih =>
          by_cases q : ∃ j, j < k ∧ wrI (f + L.nx) L.S.size (secL ep L n P) L.S j ≠ 0
          · obtain ⟨j, hj, hje⟩ := q
            exact ih j hj ⟨by omega, hje⟩
          · exact ⟨k, hk.1, hk.2, fun j hj => Classical.byContradiction fun z => q ⟨j, hj, z⟩⟩
      obtain ⟨w1, w2⟩ := wr_last h.dn (by omega) hmin hke
      rw [appT_at h0 hk hmin hke]
      exact .inr (.inr ⟨h0, w2, k + 1, rfl, by omega, by omega, w1⟩)
    · have hall : ∀ j, j < n → wrI (f + L.nx) L.S.size (secL ep L n P) L.S j = 0 := fun j hj => Classical.byContradiction fun q => hf ⟨j, hj, q⟩
      obtain ⟨w1, w2⟩ := wr_all h.dn n (by omega) hall
      rw [appT_all h0 hall]
      have eI : flushI (wrS (f + L.nx) L.S.size (secL ep L n P) L.S n) = strikeI (wrS (f + L.nx) L.S.size (secL ep L n P) L.S n) := if_neg (by rw [w2]; decide)
      rw [eI]
      by_cases hs : strikeI (wrS (f + L.nx) L.S.size (secL ep L n P) L.S n) = 0
      · have eD : flushD (wrS (f + L.nx) L.S.size (secL ep L n P) L.S n) = flushS (wrS (f + L.nx) L.S.size (secL ep L n P) L.S n) := by
          unfold flushD
          rw [if_neg (by rw [w2]; decide), if_neg (by rw [hs]; decide)]
        rw [eD, hs, if_pos rfl]
        have enow : (flushS (wrS (f + L.nx) L.S.size (secL ep L n P) L.S n)).now = (wrS (f + L.nx) L.S.size (secL ep L n P) L.S n).now := strikeS_now _
        have eN : (flushS (wrS (f + L.nx) L.S.size (secL ep L n P) L.S n)).N = L.S.N := (strikeS_N _).trans w1.N
        have eS : (flushS (wrS (f + L.nx) L.S.size (secL ep L n P) L.S n)).size = L.S.size := (strikeS_size _).trans w1.size
        refine .inr (.inl ⟨h0, rfl, ⟨by simp, ?_, rfl, fun j => ?_, z5, by rw [eS]; exact h.sz, by rw [eN]; exact hN⟩, rfl, eS, eN, fun j hj => ?_, fun j hj => ?_⟩)
        · exact strike_zero hs w2
        · show (flushS _).now j = fastTo (wrS (f + L.nx) L.S.size (secL ep L n P) L.S n).fast (wrS (f + L.nx) L.S.size (secL ep L n P) L.S n).loose j
          rw [enow, w1.fast, w1.lo, h.lo, List.nil_append]
          by_cases q : ∃ i, i < n ∧ j = f + L.nx + i
          · obtain ⟨i, hi, rfl⟩ := q
            rw [w1.at_ i hi]
            symm
            refine fastTo_get _ _ _ (fun x hx e => ?_) ⟨(f + L.nx + i, secL ep L n P i), List.mem_map.2 ⟨i, List.mem_range.2 hi, rfl⟩, rfl⟩
            obtain ⟨i', hi', rfl⟩ := List.mem_map.1 hx
            have e' : f + L.nx + i' = f + L.nx + i := e
            obtain rfl : i' = i := by omega
            rfl
          · rw [w1.out j fun i hi e => q ⟨i, hi, e⟩, h.nf j, fastTo_out]
            intro x hx e
            obtain ⟨i', hi', rfl⟩ := List.mem_map.1 hx
            exact q ⟨i', List.mem_range.1 hi', e.symm⟩
        · show (flushS _).now _ = _
          rw [enow]; exact w1.at_ j hj
        · show (flushS _).now _ = _
          rw [enow]; exact w1.out j hj
      · have q4 := strike_four hs
        have eD : flushD (wrS (f + L.nx) L.S.size (secL ep L n P) L.S n) = strikeS (wrS (f + L.nx) L.S.size (secL ep L n P) L.S n) := by
          unfold flushD
          rw [if_neg (by rw [w2]; decide), if_pos q4.1]
        rw [eD, q4.1]
        refine .inr (.inr ⟨h0, rfl, n, by simp, by omega, Nat.le_refl _, ⟨?_, ?_, fun j hj => ?_, fun j hj => ?_, ?_, ?_⟩⟩)
        · exact (strikeS_loose _).trans w1.lo
        · exact (strikeS_fast _).trans w1.fast
        · show (strikeS _).now _ = _
          rw [strikeS_now]; exact w1.at_ j hj
        · show (strikeS _).now _ = _
          rw [strikeS_now]; exact w1.out j hj
        · exact (strikeS_size _).trans w1.size
        · exact (strikeS_N _).trans w1.N
  · exact .inl ⟨h0, refuse_four _ _ _ _ _, appT_no h0⟩
theorem copyF_none (base F : Nat → Nat) : copyF base 0 0 F = base := by
  funext i
  unfold copyF
  rw [if_neg (by omega)]
theorem crash_to {S : DS} {fa : Nat → Int} {L a k : Nat} {F : Nat → Nat → Nat} (h : S.loose = (List.range k).map fun j => (a + j, F j)) : ∀ m, m ≤ k → ∃ c : Nat → Nat, (∀ j, j < m → (crashTo S fa L m).1 (a + j) = copyF (S.fast (a + j)) 0 (c j) (F j)) ∧ ∀ j, (∀ i, i < m → j ≠ a + i) → (crashTo S fa L m).1 j = S.fast j
  | 0, _ => ⟨fun _ => 0, fun j hj => absurd hj (by omega), fun _ _ => rfl⟩
  | m + 1, hm => by
    obtain ⟨c, h1, h2⟩ := crash_to (fa := fa) (L := L) h m (by omega)
    have hget : S.loose[m]? = some (a + m, F m) := by
      rw [h, List.getElem?_map, List.getElem?_range (by omega)]
      rfl
    have hbase := h2 (a + m) fun i hi e => by omega
    -- the m-th is written c' bytes far
    have hex : ∃ c', (crashTo S fa L (m + 1)).1 = upd (crashTo S fa L m).1 (a + m) (copyF (S.fast (a + m)) 0 c' (F m)) := by
      have e : crashTo S fa L (m + 1) = (match S.loose[m]? with
        | none => crashTo S fa L m
        | some x => if m + 1 = S.loose.length then (upd (crashTo S fa L m).1 x.1 (copyF ((crashTo S fa L m).1 x.1) 0 (choiceN fa L (crashTo S fa L m).2 (S.size + 1)) x.2), nextN L (crashTo S fa L m).2)
          else (if choiceN fa L (crashTo S fa L m).2 2 = 1 then upd (crashTo S fa L m).1 x.1 (copyF ((crashTo S fa L m).1 x.1) 0 S.size x.2) else (crashTo S fa L m).1, nextN L (crashTo S fa L m).2)) := rfl
      rw [e, hget]
      dsimp only
      rw [hbase]
      split
      · exact ⟨_, rfl⟩
      · dsimp only
        split
        · exact ⟨_, rfl⟩
        · refine ⟨0, ?_⟩
          rw [copyF_none, ← hbase]
          funext j
          unfold upd
          split
          · rename_i q; rw [q]
          · rfl
    obtain ⟨c', hc'⟩ := hex
    refine ⟨fun j => if j = m then c' else c j, fun j hj => ?_, fun j hj => ?_⟩
    · rw [hc']
      unfold upd
      dsimp only
      by_cases e : j = m
      · subst e; rw [if_pos rfl, if_pos rfl]
      · rw [if_neg (by omega), if_neg e]; exact h1 j (by omega)
    · rw [hc']
      unfold upd
      rw [if_neg (hj m (by omega))]
      exact h2 j fun i hi => hj i (by omega)
/-- What a crash leaves of loose writes: first pieces of them. -/
theorem crash_now {S : DS} {fa : Nat → Int} {L a k : Nat} {F : Nat → Nat → Nat} (h : S.loose = (List.range k).map fun j => (a + j, F j)) : ∃ c : Nat → Nat, (∀ j, j < k → (crashS S fa L).now (a + j) = copyF (S.fast (a + j)) 0 (c j) (F j)) ∧ ∀ j, (∀ i, i < k → j ≠ a + i) → (crashS S fa L).now j = S.now j := by
  have hl : S.loose.length = k := by rw [h]; simp
  obtain ⟨c, h1, h2⟩ := crash_to (fa := fa) (L := L) h k (Nat.le_refl _)
  refine ⟨c, fun j hj => ?_, fun j hj => ?_⟩
  · show nowTo (crashTo S fa L S.loose.length).1 S.now S.loose (a + j) = _
    rw [nowTo_in _ _ _ _ ⟨(a + j, F j), by rw [h]; exact List.mem_map.2 ⟨j, List.mem_range.2 hj, rfl⟩, rfl⟩, hl]
    exact h1 j hj
  · show nowTo (crashTo S fa L S.loose.length).1 S.now S.loose j = _
    rw [nowTo_out]
    intro x hx e
    rw [h] at hx
    obtain ⟨i, hi, rfl⟩ := List.mem_map.1 hx
    exact hj i (List.mem_range.1 hi) e.symm
theorem crash_quiet {S : DS} {fa : Nat → Int} {L : Nat} (h : S.loose = []) : (crashS S fa L).now = S.now ∧ (crashS S fa L).fast = S.fast := by
  unfold crashS
  rw [h]
  exact ⟨rfl, rfl⟩
end Go.Proofs.Ytmikemijdglgaaa
/- What a log holds, plain: read as the document's groups. -/
namespace Go.Proofs.Ytmikemijdglgaaa
open Go.RowKit
set_option linter.unusedVariables false
set_option linter.unusedSimpArgs false

def dcOf (S : DS) (f i : Nat) : Dc := (pageI (S.now (f + i)), strF (fun j => S.now (f + i) (25 + j)) (S.size - 45))
/-- Changes gathered into groups. -/
def dTo (last : Nat → Bool) (dc : Nat → Dc) : Nat → List (List Dc) × List Dc
  | 0 => ([], [])
  | k + 1 => if last k = true then ((dTo last dc k).1 ++ [(dTo last dc k).2 ++ [dc k]], []) else ((dTo last dc k).1, (dTo last dc k).2 ++ [dc k])
theorem gTo_dTo (last : Nat → Bool) (dc : Nat → Dc) : ∀ k, ((gTo last k).1.map (List.map dc), (gTo last k).2.map dc) = dTo last dc k
  | 0 => rfl
  | k + 1 => by
    have ih := gTo_dTo last dc k
    rw [gTo_succ]
    unfold gStep dTo
    rw [← ih]
    by_cases h : last k = true
    · rw [if_pos h, if_pos h]; simp
    · rw [if_neg h, if_neg h]; simp
theorem dTo_congr {l1 l2 : Nat → Bool} {d1 d2 : Nat → Dc} : ∀ k, (∀ i, i < k → l1 i = l2 i ∧ d1 i = d2 i) → dTo l1 d1 k = dTo l2 d2 k
  | 0, _ => rfl
  | k + 1, h => by
    unfold dTo
    rw [dTo_congr k fun i hi => h i (by omega), (h k (by omega)).1, (h k (by omega)).2]
/-- A whole group behind what is there, or its first part. -/
theorem dTo_run {last : Nat → Bool} {dc x : Nat → Dc} {nx n : Nat} {gs : List (List Dc)} (hn : 1 ≤ n) (h : dTo last dc nx = (gs, [])) : ∀ q, q ≤ n → (∀ j, j < q → last (nx + j) = decide (j + 1 = n) ∧ dc (nx + j) = x j) → dTo last dc (nx + q) = if q = n then (gs ++ [(List.range n).map x], []) else (gs, (List.range q).map x)
  | 0, _, _ => by rw [if_neg (by omega)]; exact h
  | q + 1, hq, hx => by
    have ih := dTo_run hn h q (by omega) fun j hj => hx j (by omega)
    rw [if_neg (by omega)] at ih
    show dTo last dc ((nx + q) + 1) = _
    unfold dTo
    rw [ih, (hx q (by omega)).1, (hx q (by omega)).2]
    by_cases e : q + 1 = n
    · rw [if_pos (decide_eq_true e), if_pos e, ← e, List.range_succ, List.map_append]; rfl
    · rw [if_neg (by rw [decide_eq_false e]; decide), if_neg e, List.range_succ, List.map_append]; rfl
theorem dc_congr {S T : DS} {f i : Nat} (hs : 64 ≤ S.size) (e : T.size = S.size) (h : ∀ k, k < S.size → T.now (f + i) k = S.now (f + i) k) : dcOf T f i = dcOf S f i ∧ lastB T f i = lastB S f i := by
  unfold dcOf lastB pageI takeI flagN
  refine ⟨Prod.ext ?_ ?_, ?_⟩
  · dsimp only
    rw [leTo_congr fun k hk => h (16 + k) (by omega)]
  · dsimp only
    rw [e]
    exact strF_congr fun k hk => h _ (by omega)
  · rw [h 24 (by omega)]
/-- What a put is as the document's change. -/
def putDc (room : Nat) (P : Nat → PutD) (i : Nat) : Dc := ((P i).page, strF (fun _ => (P i).b) (putN room (P i)))
def gD (room n : Nat) (P : Nat → PutD) : List Dc := (List.range n).map (putDc room P)
/-- A log's first slots hold groups of an epoch. -/
structure Cont (f ep : Nat) (S : DS) (nx : Nat) (gs : List (List Dc)) : Prop where
  ch : ∀ i, i < nx → chAt S f ep i
  rd : dTo (lastB S f) (dcOf S f) nx = (gs, [])
theorem Cont.zero (f ep : Nat) (S : DS) : Cont f ep S 0 [] := ⟨fun i hi => absurd hi (by omega), rfl⟩
theorem Cont.keep {f ep nx : Nat} {S T : DS} {gs : List (List Dc)} (h : Cont f ep S nx gs) (hs : 64 ≤ S.size) (e : T.size = S.size) (k : ∀ i, i < nx → T.now (f + i) = S.now (f + i)) : Cont f ep T nx gs :=
  ⟨fun i hi => by
    have := h.ch i hi
    unfold chAt at this ⊢
    rw [k i hi, e]; exact this, by
    rw [← h.rd]
    exact dTo_congr nx fun i hi => by
      obtain ⟨a, b⟩ := dc_congr (f := f) (i := i) hs e fun q _ => by rw [k i hi]
      exact ⟨b, a⟩⟩
/-- The slots behind the log's end. -/
def Rest (f cn : Nat) (R : Nat → (Nat → Nat) → Prop) (S : DS) (nx : Nat) : Prop := ∀ i, nx ≤ i → i < cn → R i (S.now (f + i))
theorem secL_at {ep n j : Nat} {L : LS} {P : Nat → PutD} (hp : putN (L.S.size - 45) (P j) = L.S.size - 45) : secL ep L n P j = chSec L.S.size ep (L.nx + j) (P j).page.toNat (decide (j + 1 = n)) (fun _ => (P j).b) := by
  unfold secL logSec chSec
  show secF (L.S.size - 20) (mkN ep (L.nx + j)) (9 + putN (L.S.size - 45) (P j)) _ = _
  rw [hp]
  rfl
/-- A slot that was written whole. -/
theorem wrote_slot {f ep n j : Nat} {L : LS} {T : DS} {P : Nat → PutD} (hs : 64 ≤ L.S.size) (he1 : 1 ≤ ep) (he : ep ≤ 1099511627776) (hi : L.nx + j ≤ 1048576) (hb : (P j).b < 256) (hpg : 0 ≤ (P j).page ∧ (P j).page ≤ 2147483647) (hp : putN (L.S.size - 45) (P j) = L.S.size - 45)
    (e : T.size = L.S.size) (h : ∀ k, k < L.S.size → T.now (f + (L.nx + j)) k = secL ep L n P j k) : chAt T f ep (L.nx + j) ∧ lastB T f (L.nx + j) = decide (j + 1 = n) ∧ dcOf T f (L.nx + j) = putDc (L.S.size - 45) P j := by
  have hG : ∀ k : Nat, (fun _ => (P j).b : Nat → Nat) k < 256 := fun _ => hb
  rw [secL_at hp] at h
  have h2 : pageI (T.now (f + (L.nx + j))) = (P j).page := by
    unfold pageI takeI
    rw [leTo_congr fun k hk => h (16 + k) (by omega)]
    have := chSec_page (ep := ep) (i := L.nx + j) (page := (P j).page.toNat) (last := decide (j + 1 = n)) (G := fun _ => (P j).b) hs he hi (by omega)
    unfold pageI takeI at this
    rw [this]
    omega
  have h3 : flagN (T.now (f + (L.nx + j))) = if decide (j + 1 = n) then 1 else 0 := (h 24 (by omega)).trans (chSec_flag hs he hi)
  refine ⟨?_, ?_, ?_⟩
  · unfold chAt
    rw [e, ch_congr (m := L.S.size - 20) (by omega) fun k hk => h k (by omega)]
    exact chSec_ch hs he1 he hi hG (by omega)
  · unfold lastB
    rw [h3]
    by_cases q : j + 1 = n
    · rw [decide_eq_true q]; rfl
    · rw [decide_eq_false q]; rfl
  · unfold dcOf putDc
    rw [h2, e, hp]
    congr 1
    exact strF_congr fun k hk => (h _ (by omega)).trans (chSec_bytes hs he hi (by omega))
/-- A group that was written whole behind the others. -/
theorem Cont.app {f cn ep n nx' : Nat} {L : LS} {T : DS} {P : Nat → PutD} {gs : List (List Dc)} (h : Cont f ep L.S L.nx gs) (hs : 64 ≤ L.S.size) (he1 : 1 ≤ ep) (he : ep ≤ 1099511627776) (hc : cn ≤ 1048576) (hb : ∀ j, j < n → (P j).b < 256) (h0 : appR cn L n P = 0)
    (e : T.size = L.S.size) (hn : nx' = L.nx + n) (at_ : ∀ j, j < n → ∀ k, k < L.S.size → T.now (f + L.nx + j) k = secL ep L n P j k) (out : ∀ j, (∀ i, i < n → j ≠ f + L.nx + i) → T.now j = L.S.now j) : Cont f ep T nx' (gs ++ [gD (L.S.size - 45) n P]) := by
  subst hn
  obtain ⟨z1, z2, z3, z4, z5⟩ := appR_zero h0 (by omega)
  have hk := h.keep (T := T) hs e fun i hi => out (f + i) fun j hj => by omega
  have hw := fun j (hj : j < n) => wrote_slot (f := f) (T := T) (n := n) hs he1 he (by omega) (hb j hj) (z3 j hj) (z4 j hj) e fun k hk => by
    rw [← Nat.add_assoc]; exact at_ j hj k hk
  refine ⟨fun i hi => ?_, ?_⟩
  · by_cases q : i < L.nx
    · exact hk.ch i q
    · obtain ⟨j, rfl⟩ : ∃ j, i = L.nx + j := ⟨i - L.nx, by omega⟩
      exact (hw j (by omega)).1
  · have := dTo_run (x := putDc (L.S.size - 45) P) z2 hk.rd n (Nat.le_refl _) fun j hj => (hw j hj).2
    rw [if_pos rfl] at this
    exact this
theorem Rest.app {f cn n nx' : Nat} {R : Nat → (Nat → Nat) → Prop} {L : LS} {T : DS} (h : Rest f cn R L.S L.nx) (hn : nx' = L.nx + n) (out : ∀ j, (∀ i, i < n → j ≠ f + L.nx + i) → T.now j = L.S.now j) : Rest f cn R T nx' := by
  subst hn
  intro i h1 h2
  rw [out (f + i) fun j hj => by omega]
  exact h i (by omega) h2
/-- Where the slots behind hold nothing of the epoch, just the log's own groups are read. -/
theorem read_cont {f cn ep nx k : Nat} {S : DS} {gs : List (List Dc)} (h : Cont f ep S nx gs) (hr : Rest f cn (fun i F => ¬ isCh F (S.size - 20) i ep) S nx) (hnx : nx ≤ cn) (hk : k ≤ cn) (hch : ∀ i, i < k → chAt S f ep i) (hno : k < cn → ¬ chAt S f ep k) : (dTo (lastB S f) (dcOf S f) k).1 = gs := by
  have e : k = nx := by
    rcases Nat.lt_trichotomy k nx with q | q | q
    · exact absurd (h.ch k q) (hno (by omega))
    · exact q
    · exact absurd (hch nx q) (hr nx (Nat.le_refl _) (by omega))
  rw [e, h.rd]
/-- Behind a crash in the midst of a group: the groups that were told, and it as well, or not. -/
theorem read_fell {f cn ep n k k' m : Nat} {L0 L : LS} {P : Nat → PutD} {gs : List (List Dc)} {fa : Nat → Int} (h0 : Alive f cn L0) (h : Cont f ep L0.S L0.nx gs) (hr : Rest f cn (fun i F => Elder L0.S.size ep i F) L0.S L0.nx) (he1 : 1 ≤ ep) (he : ep ≤ 1099511627776) (hc : cn ≤ 1048576)
    (hb : ∀ j, j < n → (P j).b < 256) (hR : appR cn L0 n P = 0) (hF : Fell f ep L0 n P L k) (hk : k' ≤ cn) (hch : ∀ i, i < k' → chAt (crashS L.S fa m) f ep i) (hno : k' < cn → ¬ chAt (crashS L.S fa m) f ep k') :
    (dTo (lastB (crashS L.S fa m) f) (dcOf (crashS L.S fa m) f) k').1 = gs ∨ (dTo (lastB (crashS L.S fa m) f) (dcOf (crashS L.S fa m) f) k').1 = gs ++ [gD (L0.S.size - 45) n P] := by
  have hs := h0.sz
  obtain ⟨z1, z2, z3, z4, z5⟩ := appR_zero hR (by omega)
  have hlo : L.S.loose = (List.range k).map fun j => (f + L0.nx + j, secL ep L0 n P j) := by rw [hF.w.lo, h0.lo, List.nil_append]
  obtain ⟨c, c1, c2⟩ := crash_now (fa := fa) (L := m) hlo
  obtain ⟨T, hT⟩ : ∃ T, T = crashS L.S fa m := ⟨_, rfl⟩
  have eS : T.size = L0.S.size := by rw [hT]; exact hF.w.size
  rw [← hT] at c1 c2 hch hno ⊢
  clear hT
  have c3 : ∀ j, (∀ i, i < k → j ≠ f + L0.nx + i) → T.now j = L0.S.now j := fun j hj => (c2 j hj).trans (hF.w.out j hj)
  have c4 : ∀ j, j < k → T.now (f + L0.nx + j) = copyF (L0.S.now (f + L0.nx + j)) 0 (c j) (secL ep L0 n P j) := fun j hj => by rw [c1 j hj, hF.w.fast, ← h0.nf]
  have hC : Cont f ep T L0.nx gs := h.keep hs.1 eS fun i hi => c3 _ fun j hj => by omega
  have hkn := hF.kn
  -- what is told of the slots behind
  have hw : ∀ j, j < k → chAt T f ep (L0.nx + j) → lastB T f (L0.nx + j) = decide (j + 1 = n) ∧ dcOf T f (L0.nx + j) = putDc (L0.S.size - 45) P j := fun j hj hc => by
    have hsec := secL_at (ep := ep) (n := n) (L := L0) (P := P) (z4 j (by omega))
    have hcc := hc
    unfold chAt at hcc
    rw [eS, ← Nat.add_assoc, c4 j hj, hsec] at hcc
    have hz := torn_ch hs.1 he1 he (by omega) (fun _ => hb j (by omega)) (by
      have := hr (L0.nx + j) (by omega) (by omega)
      rw [← Nat.add_assoc] at this
      exact this) hcc
    exact (wrote_slot (f := f) (T := T) (n := n) hs.1 he1 he (by omega) (hb j (by omega)) (z3 j (by omega)) (z4 j (by omega)) eS fun q hq => by
      rw [← Nat.add_assoc, c4 j hj, hsec]
      exact hz q hq).2
  have hnot : ∀ i, L0.nx + k ≤ i → i < cn → ¬ chAt T f ep i := fun i h1 h2 hc => by
    unfold chAt at hc
    rw [eS, c3 (f + i) fun j hj => by omega] at hc
    exact elder_no hs.1 he (by omega) (hr i (by omega) h2) (Nat.le_refl _) he1 hc
  have hge : L0.nx ≤ k' := by
    rcases Nat.lt_or_ge k' L0.nx with q | q
    · exact absurd (hC.ch k' q) (hno (by omega))
    · exact q
  obtain ⟨q, rfl⟩ : ∃ q, k' = L0.nx + q := ⟨k' - L0.nx, by omega⟩
  have hqk : q ≤ k := by
    rcases Nat.lt_or_ge k q with z | z
    · exact absurd (hch (L0.nx + k) (by omega)) (hnot _ (Nat.le_refl _) (by omega))
    · exact z
  have := dTo_run (x := putDc (L0.S.size - 45) P) z2 hC.rd q (by omega) fun j hj => hw j (by omega) (hch _ (by omega))
  rw [this]
  by_cases e : q = n
  · rw [if_pos e]; exact .inr rfl
  · rw [if_neg e]; exact .inl rfl
theorem gTo_mem (last : Nat → Bool) : ∀ k g, g ∈ (gTo last k).1 → g.length ≤ k
  | 0, g, h => by simp [gTo] at h
  | k + 1, g, h => by
    have ih := gTo_mem last k
    have hl := (gTo_len last k).2
    rw [gTo_succ] at h
    unfold gStep at h
    split at h
    · rcases List.mem_append.1 h with h | h
      · have := ih g h; omega
      · rw [List.mem_singleton.1 h, List.length_append]
        simp; omega
    · have := ih g h; omega
/-- What Read tells, as the document's groups. -/
theorem read_lgs {S : DS} {f cn ep : Nat} {w w' : World} {e : Ending} (hs : 64 ≤ S.size ∧ S.size ≤ 4096) (hcn : cn ≤ 1000000) (h : ReadP S f cn ep w e w') : ∃ k v, k ≤ cn ∧ (∀ i, i < k → chAt S f ep i) ∧ (k < cn → ¬ chAt S f ep k) ∧ e = .returned (.tuple #[v, .int .i64 0]) ∧ LGs w' v (dTo (lastB S f) (dcOf S f) k).1 ∧ Below w.heap.size w w' := by
  obtain ⟨⟨k, v, vs, X, hk, hch, hno, he, hown, hgr, hX⟩, hb⟩ := h
  refine ⟨k, v, hk, hch, hno, he, ?_, hb⟩
  have hd : (dTo (lastB S f) (dcOf S f) k).1 = (gTo (lastB S f) k).1.map (List.map (dcOf S f)) := by rw [← gTo_dTo]
  rw [hd]
  have hlen := (gTo_len (lastB S f) k).1
  have hvl : vs.length = (gTo (lastB S f) k).1.length := by have := hown.1; omega
  have hrow : ∀ (j : Nat) (u : Value) (l : List Dc), vs[j]? = some u → ((gTo (lastB S f) k).1.map (List.map (dcOf S f)))[j]? = some l → LRw w' u l := fun j u l a b => by
    rw [List.getElem?_map] at b
    cases hg : (gTo (lastB S f) k).1[j]? with
    | none => rw [hg] at b; cases b
    | some g =>
      rw [hg] at b
      simp only [Option.map_some, Option.some.injEq] at b
      subst b
      obtain ⟨b, c, ls, rfl, hx, h1, h2, hrow, hcell⟩ := hgr j u g a hg
      have hls := hrow.1
      have hgl : g.length ≤ 1000000 := by
        have hmem := List.mem_of_getElem? hg
        have := gTo_mem (lastB S f) k g hmem
        omega
      refine ⟨some ⟨b, 0, none⟩, c, by rw [List.length_map], by rw [List.length_map]; exact hgl, fun _ => ⟨b, 0, rfl, fun i y hy => ?_⟩⟩
      rw [List.getElem?_map] at hy
      cases hgi : g[i]? with
      | none => rw [hgi] at hy; cases hy
      | some s =>
        rw [hgi] at hy
        simp only [Option.map_some, Option.some.injEq] at hy
        subst hy
        have hil : i < ls.length := by rw [hls]; exact (List.getElem?_eq_some_iff.1 hgi).1
        have hl := List.getElem?_eq_getElem hil
        obtain ⟨hp, b', o', d', hv', hXb, hd1, hd2, hby⟩ := hrow.2 i s _ hgi hl
        obtain ⟨q1, q2⟩ := chCells_at hl
        rw [Nat.zero_add]
        refine ⟨?_, some ⟨b', o', none⟩, S.size - 20 - 25, d', fun j => S.now (f + s) (25 + j), ?_, hby, ?_⟩
        · rw [hcell _ _ q1, hp]; rfl
        · rw [hcell _ _ q2, hv']
        · unfold dcOf
          rw [show S.size - 20 - 25 = S.size - 45 by omega]
  obtain ⟨A, c, rfl⟩ := own_sl hown
  have h0 := hown
  refine ⟨A, c, vs, by rw [List.length_map], by rw [List.length_map]; exact hvl, by rw [List.length_map]; omega, fun hne => ?_, hrow⟩
  rw [List.length_map] at hne
  rcases hown.2 with ⟨_, h⟩ | ⟨q, cap, cur, e, _⟩
  · omega
  · injection e with e _ _
    subst e
    exact ⟨q, 0, rfl, fun j u hu => by
      rw [Nat.zero_add, ← hu]
      exact World.ownsRow.cellAt (w := w') (base := w.heap.size) (e := 38) (size := 1) h0 j (by have := (List.getElem?_eq_some_iff.1 hu).1; omega)⟩
end Go.Proofs.Ytmikemijdglgaaa
/- The document's Slot. -/
namespace Go.Proofs.Ytmikemijdglgaaa
open Go.RowKit
set_option linter.unusedVariables false
set_option linter.unusedSimpArgs false

/-- What the document's Slot tells. -/
def SlP (F : Nat → Nat) (m i : Nat) (w : World) (e : Ending) (w' : World) : Prop :=
  (epochN F m i = 0 ∧ e = .returned (.tuple #[.int .i64 0, .slice none 0 0]) ∨ epochN F m i ≠ 0 ∧ ∃ B d, e = .returned (.tuple #[.int .i64 (epochN F m i : Nat), .slice B (m - 16) d]) ∧ Bytes w' B (m - 16) (fun j => F (16 + j)) ∧ m - 16 ≤ d ∧ d ≤ 9223372036854775807 ∧ ∀ a, B = some a → w.heap.size ≤ a.block) ∧ Below w.heap.size w w'
theorem epoch_none {F : Nat → Nat} {m i : Nat} (h : ¬ (1 ≤ leTo F 8 / 2097152 ∧ leTo F 8 / 2097152 ≤ 1099511627776 ∧ leTo F 8 = mkN (leTo F 8 / 2097152) i)) : epochN F m i = 0 := by
  unfold epochN
  by_cases q : okP F m
  · rw [if_pos q, if_neg h]
  · rw [if_neg q]
set_option maxRecDepth 100000 in
set_option maxHeartbeats 4000000 in
theorem refSlot_any (i b o n m c : Nat) (F : Nat → Nat) (w : World) (hi : i ≤ 1000) (h1 : m + 20 ≤ n) (h2 : n ≤ m + 20) (h44 : 44 ≤ m) (hm : m ≤ 4076) (hc : n ≤ c) (hc2 : c ≤ 9223372036854775807) (hb : Bytes w (some ⟨b, o, none⟩) n F) :
    Calls Try.prog 29 #[.slice (some ⟨b, o, none⟩) n c, .int .i64 i] w (SlP F m i w) := by
  have K := Lib.hid (refRead_all2 (some ⟨b, o, none⟩) n c F w hb hc hc2)
  clear hb
  by_cases hok : okP F m
  case neg =>
    have HE := Lib.hid (epoch_bad (i := i) hok)
    have HK := Lib.hid hok
    clear hok
    have hw1 : IntKind.i64.wrap ((0 : Int) - (i : Int)) = -(i : Int) := by rw [IntKind.wrap_i64]; omega
    have hw2 : IntKind.i64.wrap (-(i : Int) - 1) = -(i : Int) - 1 := by rw [IntKind.wrap_i64]; omega
    go_enter Try.func29, Try.ntmps29
    go_wp2_with fail
    refine K.out.mono ?_
    rintro e w1 ⟨v, k, B, d, er, rfl, hr, _, l1, _⟩
    obtain ⟨rfl, rfl, rfl⟩ := hr.same (.no h1 h2 h44 hm HK.out)
    have L1 := Lib.hid l1
    clear l1 hr
    go_wp2
    go_ret2
    exact ⟨.inl ⟨HE.out, rfl⟩, L1.out⟩
  have hv := hok.1
  obtain ⟨v, hve⟩ : ∃ v, v = leTo F 8 := ⟨_, rfl⟩
  have HV := Lib.hid hve
  rw [← hve] at hv
  obtain ⟨hv1, hv2⟩ := hv
  have HK := Lib.hid hok
  clear hok hve
  have hw1 : IntKind.i64.wrap ((v : Int) - (i : Int)) = (v : Int) - (i : Int) := by rw [IntKind.wrap_i64]; omega
  have hw2 : IntKind.i64.wrap ((v : Int) - (i : Int) - 1) = (v : Int) - (i : Int) - 1 := by rw [IntKind.wrap_i64]; omega
  by_cases hlow : (v : Int) - (i : Int) - 1 < 2097152
  · have HE := Lib.hid (show epochN F m i = 0 from epoch_none fun q => by rw [← HV.out] at q; unfold mkN at q; omega)
    go_enter Try.func29, Try.ntmps29
    go_wp2_with fail
    refine K.out.mono ?_
    rintro e w1 ⟨v', k, B, d, er, rfl, hr, _, l1, _⟩
    obtain ⟨hx1, rfl, rfl⟩ := hr.same (.yes h1 h2 h44 hm HK.out)
    rw [← HV.out] at hx1
    subst hx1
    have L1 := Lib.hid l1
    clear l1 hr
    go_wp2
    go_ret2
    exact ⟨.inl ⟨HE.out, rfl⟩, L1.out⟩
  · obtain ⟨z, hz⟩ : ∃ z : Nat, v = z + i + 1 := ⟨v - i - 1, by omega⟩
    subst hz
    have hz0 : (((z + i + 1 : Nat) : Int) - (i : Int) - 1) = (z : Int) := by omega
    rw [hz0] at hlow hw2
    have hzl : 2097152 ≤ z := by omega
    go_enter Try.func29, Try.ntmps29
    go_wp2_with fail
    refine K.out.mono ?_
    rintro e w1 ⟨v', k, B, d, er, rfl, hr, hBy, l1, hd⟩
    obtain ⟨hx1, rfl, rfl⟩ := hr.same (.yes h1 h2 h44 hm HK.out)
    rw [← HV.out] at hx1
    subst hx1
    have L1 := Lib.hid l1
    have HB := Lib.hid (And.intro hBy hd)
    clear l1 hr hBy hd
    go_wp2
    all_goals
      go_ret2
      refine ⟨?_, L1.out⟩
      first
        | exact .inl ⟨epoch_none (by rw [← HV.out]; unfold mkN; omega), rfl⟩
        | (have he : epochN F m i = z / 2097152 := by
            rw [epoch_yes HK.out (by rw [← HV.out]; omega) (by rw [← HV.out]; unfold mkN; omega), ← HV.out]; omega
           refine .inr ⟨by rw [he]; omega, B, d, ?_, HB.out⟩
           have hq : ((z / 2097152 : Nat) : Int) = ((z : Int) + i + 1 - i - 1) / 2097152 := by omega
           rw [he, hq]
           rfl)
end Go.Proofs.Ytmikemijdglgaaa
/- The document's Latest over a row of sectors. -/
namespace Go.Proofs.Ytmikemijdglgaaa
open Go.RowKit
set_option linter.unusedVariables false
set_option linter.unusedSimpArgs false

/-- A row of sectors of 64 bytes. -/
def SRow (W : World) (n : Nat) (Fs : Nat → Nat → Nat) (v : Value) : Prop :=
  ∃ A c, v = .slice A n c ∧ n ≤ 1000 ∧ ∀ i, i < n → ∃ b o, A = some ⟨b, o, none⟩ ∧ ∃ b' o' c', W.cell? ⟨b, o + i, none⟩ = some (.slice (some ⟨b', o', none⟩) 64 c') ∧ 64 ≤ c' ∧ c' ≤ 9223372036854775807 ∧ Bytes W (some ⟨b', o', none⟩) 64 (Fs i)
theorem SRow.below {W W' : World} {n : Nat} {Fs : Nat → Nat → Nat} {v : Value} (h : SRow W n Fs v) (k : Below W.heap.size W W') : SRow W' n Fs v := by
  obtain ⟨A, c, e, hn, h⟩ := h
  refine ⟨A, c, e, hn, fun i hi => ?_⟩
  obtain ⟨b, o, e, b', o', c', q, h1, h2, h3⟩ := h i hi
  exact ⟨b, o, e, b', o', c', kept_l k (cell_lt' q) q, h1, h2, h3.below k (Nat.le_refl _)⟩
def latN (Fs : Nat → Nat → Nat) : Nat → Nat
  | 0 => 0
  | k + 1 => max (latN Fs k) (epochN (Fs k) 44 k)
theorem latN_le (Fs : Nat → Nat → Nat) (k : Nat) : latN Fs k ≤ 1099511627776 := by
  induction k with
  | zero => exact Nat.zero_le _
  | succ k ih => exact Nat.max_le.2 ⟨ih, epochN_le _ _ _⟩
set_option maxRecDepth 100000 in
set_option maxHeartbeats 4000000 in
theorem refLatest_any (n : Nat) (Fs : Nat → Nat → Nat) (v : Value) (w : World) (h : SRow w n Fs v) :
    Calls Try.prog 31 #[v] w fun e w' => e = .returned (.int .i64 (latN Fs n : Nat)) ∧ Below w.heap.size w w' := by
  obtain ⟨A, c, rfl, hn, hS⟩ := h
  have HS := Lib.hid hS
  clear hS
  go_enter Try.func31, Try.ntmps31
  go_wp2
  go_loopw [3, 4] (fun u i wr => ∃ k : Nat, k ≤ n ∧ i = .int .i64 k ∧ u = .int .i64 (latN Fs k : Nat) ∧ Below w.heap.size w wr) (fun u i _ => n - (intOf i).toNat)
  case atStart => exact ⟨0, Nat.zero_le _, rfl, rfl, Below.refl _ _⟩
  case round =>
    obtain ⟨k, hk, rfl, rfl, hbl⟩ := hrel
    obtain ⟨wo, hwo⟩ : ∃ wo, wo = wr := ⟨_, rfl⟩
    subst hwo
    by_cases hlt : k < n
    · obtain ⟨b, o, rfl, b', o', c', q, h1, h2, h3⟩ := HS.out k hlt
      have q1 := kept_l hbl (cell_lt' q) q
      have KS := Lib.hid (refSlot_any k b' o' 64 44 c' (Fs k) wo (by omega) (by omega) (by omega) (by omega) (by omega) h1 h2 (h3.below hbl (Nat.le_refl _)))
      have HL := Lib.hid hbl
      have hM : latN Fs (k + 1) = max (latN Fs k) (epochN (Fs k) 44 k) := rfl
      have hx := latN_le Fs k
      have hy := epochN_le (Fs k) 44 k
      obtain ⟨x, hxx⟩ : ∃ x, x = latN Fs k := ⟨_, rfl⟩
      obtain ⟨y, hyy⟩ : ∃ y, y = epochN (Fs k) 44 k := ⟨_, rfl⟩
      rw [← hxx] at hM hx ⊢
      rw [← hyy] at hM hy
      have HM := Lib.hid hM
      have HY := Lib.hid hyy
      clear hM hxx hyy h1 h2 h3 q hbl
      go_wp2_with fail
      refine KS.out.mono ?_
      rintro e w1 ⟨hc, l1⟩
      have L1 := Lib.hid (HL.out.trans (l1.mono HL.out.size))
      clear l1
      rw [← HY.out] at hc
      rcases hc with ⟨hy0, rfl⟩ | ⟨_, B, d, rfl, _⟩
      · subst hy0
        have hn0 : ¬ (x : Int) < 0 := by omega
        go_wp2
        go_roundw
        case rel => exact ⟨k + 1, by omega, by go_num, by rw [HM.out]; congr 1; omega, L1.out⟩
        case measure => simp [intOf]; omega
      · by_cases hxy : (x : Int) < (y : Int)
        · go_wp2
          go_roundw
          case rel => exact ⟨k + 1, by omega, by go_num, by rw [HM.out]; congr 1; omega, L1.out⟩
          case measure => simp [intOf]; omega
        · go_wp2
          go_roundw
          case rel => exact ⟨k + 1, by omega, by go_num, by rw [HM.out]; congr 1; omega, L1.out⟩
          case measure => simp [intOf]; omega
    · obtain rfl : k = n := by omega
      have HL := Lib.hid hbl
      clear hbl
      go_wp2
      go_ret
      exact ⟨rfl, HL.out⟩
end Go.Proofs.Ytmikemijdglgaaa
