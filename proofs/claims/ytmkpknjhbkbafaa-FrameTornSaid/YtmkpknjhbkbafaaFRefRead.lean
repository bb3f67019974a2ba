/- The contract of the document's Read; both reads in one form. -/
import Derived.Test.YtmkpknjhbkbafaaFReadNo
namespace Go.Proofs.Ytmkpknjhbkbafaa
open Go.RowKit

/-- What is read of n bytes: mark, length of the load, error number. -/
def ReadRes (F : Nat → Nat) (n v k : Nat) (e : Int) : Prop :=
  ((n < 64 ∨ 4096 < n) ∧ v = 0 ∧ k = 0 ∧ e = 3) ∨ ((64 ≤ n ∧ n ≤ 4096) ∧ okP F (n - 20) ∧ v = leTo F 8 ∧ k = n - 36 ∧ e = 0) ∨ ((64 ≤ n ∧ n ≤ 4096) ∧ ¬ okP F (n - 20) ∧ v = 0 ∧ k = 0 ∧ e = 5)
theorem ReadRes.same {F : Nat → Nat} {n v k v' k' : Nat} {e e' : Int} (h : ReadRes F n v k e) (h' : ReadRes F n v' k' e') : v = v' ∧ k = k' ∧ e = e' := by
  rcases h with ⟨a, b, c, d⟩ | ⟨a, p, b, c, d⟩ | ⟨a, p, b, c, d⟩ <;> rcases h' with ⟨a', b', c', d'⟩ | ⟨a', p', b', c', d'⟩ | ⟨a', p', b', c', d'⟩ <;> first | exact absurd p' p | exact absurd p p' | exact ⟨b.trans b'.symm, c.trans c'.symm, d.trans d'.symm⟩ | omega
theorem ReadRes.yes {F : Nat → Nat} {n m : Nat} (h1 : m + 20 ≤ n) (h2 : n ≤ m + 20) (h44 : 44 ≤ m) (hm : m ≤ 4076) (hok : okP F m) : ReadRes F n (leTo F 8) (m - 16) 0 := by
  have e : n - 20 = m := by omega
  exact .inr (.inl ⟨by omega, by rw [e]; exact hok, rfl, by omega, rfl⟩)
theorem ReadRes.no {F : Nat → Nat} {n m : Nat} (h1 : m + 20 ≤ n) (h2 : n ≤ m + 20) (h44 : 44 ≤ m) (hm : m ≤ 4076) (hok : ¬ okP F m) : ReadRes F n 0 0 5 := by
  have e : n - 20 = m := by omega
  exact .inr (.inr ⟨by omega, by rw [e]; exact hok, rfl, rfl, rfl⟩)

theorem read_all (A : Option Addr) (n c : Nat) (F : Nat → Nat) (w : World) (hb : Bytes w A n F) (hc : n ≤ c) (hc2 : c ≤ 9223372036854775807) :
    Calls Try.prog 16 #[.slice A n c] w fun e w' =>
      ∃ v k B d er, e = .returned (.tuple #[.int .i64 ((v : Nat) : Int), .slice B k d, .int .i64 er]) ∧ ReadRes F n v k er ∧ Bytes w' B k (fun i => F (16 + i)) ∧ Below w.heap.size w w' := by
  by_cases hs : n < 64 ∨ 4096 < n
  · exact (read_size A n c w hs hb.1).mono fun e w' ⟨he, hw⟩ => ⟨0, 0, none, 0, 3, he, .inl ⟨hs, rfl, rfl, rfl⟩, none_bytes _ _, hw ▸ Below.refl _ _⟩
  · obtain ⟨b, o, rfl, _⟩ := hb.2.2 (by omega)
    by_cases hok : okP F (n - 20)
    · exact (read_yes b o n (n - 20) c F w (by omega) (by omega) (by omega) (by omega) hc hc2 hb hok).mono fun e w' ⟨B, d, he, h1, _, _, h2⟩ =>
        ⟨leTo F 8, n - 20 - 16, B, d, 0, he, .yes (by omega) (by omega) (by omega) (by omega) hok, h1, h2⟩
    · exact (read_no b o n (n - 20) c F w (by omega) (by omega) (by omega) (by omega) hc hc2 hb hok).mono fun e w' ⟨he, h2⟩ =>
        ⟨0, 0, none, 0, 5, he, .no (by omega) (by omega) (by omega) (by omega) hok, none_bytes _ _, h2⟩

/-- The number that is gathered from the highest byte down. -/
def topF (F : Nat → Nat) : Nat → Nat
  | 0 => 0
  | k + 1 => 256 * topF F k + F (7 - k)
theorem top_all (F : Nat → Nat) : topF F 8 = leTo F 8 := by
  simp [topF, leTo]
  omega
theorem top_grows (F : Nat → Nat) (k : Nat) : ∀ j, k ≤ j → topF F k ≤ topF F j
  | 0, h => by obtain rfl : k = 0 := by omega
               exact Nat.le_refl _
  | j + 1, h => by
    rcases Nat.lt_or_ge j k with h1 | h1
    · obtain rfl : k = j + 1 := by omega
      exact Nat.le_refl _
    · have := top_grows F k j h1
      rw [topF]
      omega
theorem top_high {F : Nat → Nat} {k : Nat} (hk : k < 8) (h : 18014398509481984 < topF F k) : 4611686018427387904 < leTo F 8 := by
  have h1 := top_grows F (k + 1) 8 (by omega)
  rw [top_all, topF] at h1
  omega

theorem refRead_size (A : Option Addr) (n c : Nat) (w : World) (h : n < 64 ∨ 4096 < n) (hn : n ≤ 9223372036854775807) :
    Calls Try.prog 17 #[.slice A n c] w fun e w' => e = .returned (.tuple #[.int .i64 0, .slice none 0 0, .int .i64 3]) ∧ w = w' := by
  by_cases hs : n < 64
  · clear h
    go_enter Try.func17, Try.ntmps17
    go_wp2
    go_ret3
    exact ⟨rfl, rfl⟩
  · have h2 : 4096 < n := by omega
    clear h
    go_enter Try.func17, Try.ntmps17
    go_wp2
    go_ret3
    exact ⟨rfl, rfl⟩

def RefPost (F : Nat → Nat) (n : Nat) (w : World) (e : Ending) (w' : World) : Prop :=
  ∃ v k B d er, e = .returned (.tuple #[.int .i64 ((v : Nat) : Int), .slice B k d, .int .i64 er]) ∧ ReadRes F n v k er ∧ Bytes w' B k (fun i => F (16 + i)) ∧ Below w.heap.size w w'

set_option maxHeartbeats 1000000 in
theorem refRead_in (b o n m c : Nat) (F : Nat → Nat) (w : World) (h1 : m + 20 ≤ n) (h2 : n ≤ m + 20) (h44 : 44 ≤ m) (hm : m ≤ 4076) (hc : n ≤ c) (_hc2 : c ≤ 9223372036854775807) (hb : Bytes w (some ⟨b, o, none⟩) n F) :
    Calls Try.prog 17 #[.slice (some ⟨b, o, none⟩) n c] w (RefPost F n w) := by
  obtain ⟨bx, ox, hx, hcell⟩ := hb.2.2 (by omega)
  obtain ⟨rfl, rfl⟩ : b = bx ∧ o = ox := by injection hx with hx; injection hx with hx1 hx2; exact ⟨hx1, hx2⟩
  clear hx
  have HC := Lib.hid hcell
  clear hcell
  go_enter Try.func17, Try.ntmps17
  go_wp2
  go_loop [5, 6] (fun t i => (∃ j : Nat, j ≤ 7 ∧ i = .int .i64 j ∧ t = .int .i64 (topF F (7 - j))) ∨ (i = .int .i64 (-1) ∧ t = .int .i64 (topF F 8))) (fun _ i => (intOf i + 1).toNat)
  case atStart => exact .inl ⟨7, by omega, rfl, rfl⟩
  case round =>
    rcases hrel with ⟨j, hj, rfl, rfl⟩ | ⟨rfl, rfl⟩
    · by_cases hhi : 18014398509481984 < topF F (7 - j)
      · have hbig := top_high (by omega) hhi
        have hno : ¬ okP F m := fun h => by have := h.1.2; omega
        have hr := ReadRes.no (n := n) h1 h2 h44 hm hno
        have HR := Lib.hid hr
        clear hr hno hbig
        obtain ⟨x, hxx⟩ : ∃ x, x = topF F (7 - j) := ⟨_, rfl⟩
        rw [← hxx] at hhi ⊢
        clear hxx
        go_wp2
        go_ret3
        exact ⟨0, 0, none, 0, 5, rfl, HR.out, none_bytes _ _, Below.refl _ _⟩
      · have hF := hb.2.1 j (by omega)
        have hcj := HC.out j (by omega)
        have hstep : 256 * topF F (7 - j) + F j = topF F (7 - j + 1) := by
          rw [topF]
          congr 2
          omega
        obtain ⟨x, hxx⟩ : ∃ x, x = topF F (7 - j) := ⟨_, rfl⟩
        rw [← hxx] at hhi hstep ⊢
        have HS := Lib.hid hstep
        clear hxx hstep
        by_cases hj0 : j = 0
        · subst hj0
          have hcj0 : w.cell? ⟨b, o, none⟩ = some (.int .u8 (F 0)) := by rw [Nat.add_zero] at hcj; exact hcj
          clear hcj
          go_wp2
          go_round
          case rel => exact .inr ⟨rfl, by rw [← HS.out]; go_num⟩
          case measure => simp [intOf]
        · have hjp : 0 < j := by omega
          clear hj0
          go_wp2
          go_round
          case rel => exact .inl ⟨j - 1, by omega, by go_num, by rw [show 7 - (j - 1) = 7 - j + 1 from by omega, ← HS.out]; go_num⟩
          case measure => simp only [intOf]; omega
    · rw [top_all]
      have L1 := (Below.refl w.heap.size w).alloc (Nat.le_refl _) (.cells #[] 5)
      have H1 := Lib.hid ((hb.cut 16 (n - 20 - 16) (by omega)).below L1 (Nat.le_refl _))
      have HO := Lib.hid (own_empty w F)
      have HL := Lib.hid L1
      clear L1
      go_wp2_with (at_builtin; with_reducible refine wpList_append_bytes _ rfl (.tmp 32) (.tmp 37) 22 rfl Try.underlying22 u8infoAll w.heap.size _ _ _ _ rfl HO.out _ _ _ _ rfl H1.out ?d0 ?d1 ?d2 ?d3)
      case d1 => omega
      case d3 =>
        intro A1 c1 w1 o1 g1 _
        have l1 : Below w.heap.size w w1 := HL.out.grown g1 (by simp) (by rintro k ⟨⟩; exact Nat.le_refl _)
        have o2 : OwnB w1 w.heap.size A1 (n - 20 - 16) c1 (fun i => F (16 + i)) := by
          have := o1.congr (G := fun i => F (16 + i)) fun i _ => by unfold catF; rw [if_neg (by omega), Nat.sub_zero]
          simpa only [Nat.zero_add] using this
        have b2 := Lib.hid o2.bytes
        have n2 := Lib.hid o2.2.2.2.2
        have hs1 := hb.below l1 (Nat.le_refl _)
        clear o1 g1 o2 HL HO H1
        obtain ⟨K, hK1, hK2, hKe⟩ : ∃ K, n ≤ K + 36 ∧ K + 36 ≤ n ∧ n - 20 - 16 = K := ⟨n - 20 - 16, by omega, by omega, rfl⟩
        rw [hKe] at b2 ⊢
        clear hKe
        go_wp2_with fail
        refine (refBuild_all (n : Int) (leTo F 8 : Int) K _ _ _ w1 b2.out n2.out).mono ?_
        rintro e w2 ⟨B2, d2, rfl, bb2, l2⟩
        have l3 : Below w.heap.size w w2 := l1.trans (l2.mono l1.size)
        have lb := b2.out.below l2 (Nat.le_refl _)
        by_cases hr : (leTo F 8 : Int) < 1 ∨ 4611686018427387904 < (leTo F 8 : Int)
        · have hno : ¬ okP F m := fun h => by have := h.1; omega
          have HR := Lib.hid (ReadRes.no (n := n) h1 h2 h44 hm hno)
          have hE := bErr_2 (size := (n : Int)) (mark := (leTo F 8 : Int)) (n := K) (by omega) hr
          rw [hE]
          clear hno hr
          go_wp2
          go_ret3
          exact ⟨0, 0, none, 0, 5, rfl, HR.out, none_bytes _ _, l3⟩
        · have hE := bErr_0 (size := (n : Int)) (mark := (leTo F 8 : Int)) (n := K) (by omega) hr (by omega)
          have hLn : bLen (n : Int) (leTo F 8 : Int) K = n := by unfold bLen; rw [hE, if_pos rfl]; omega
          rw [hE, hLn]
          rw [hLn] at bb2
          have k1 := conv_any d2 bb2
          have k2 := conv_any c (hs1.below l2 (Nat.le_refl _))
          have hF := hb.2.1
          have hB := bb2.2.1
          have hm' : (n : Int).toNat - 20 = m := by omega
          have hv' : (leTo F 8 : Int).toNat = leTo F 8 := by omega
          have hK' : K = m - 16 := by omega
          have hsec : okP F m ↔ ∀ i, i < n → bF (n : Int) (leTo F 8 : Int) K (fun i => F (16 + i)) i = F i := by
            rw [ok_iff h44 fun i hi => hF i (by omega)]
            unfold secP bF
            rw [hm', hv', hK']
            constructor
            · exact fun h i hi => h.2 i (by omega)
            · exact fun h => ⟨by omega, fun i hi => h i (by omega)⟩
          by_cases hok : okP F m
          · have HR := Lib.hid (ReadRes.yes (n := n) h1 h2 h44 hm hok)
            have q1 : ((strF (bF (n : Int) (leTo F 8 : Int) K fun i => F (16 + i)) n).toList == (strF F n).toList) = true := by
              rw [strF_congr (hsec.1 hok)]; simp
            have HK := Lib.hid hK'
            clear hm' hv' hsec hok hE hLn hr bb2 hB hF lb hK'
            have lb := b2.out.below l2 (Nat.le_refl _)
            go_wp2
            go_ret3
            exact ⟨leTo F 8, m - 16, A1, c1, 0, by rw [← HK.out]; rfl, HR.out, by rw [← HK.out]; exact lb, l3⟩
          · have HR := Lib.hid (ReadRes.no (n := n) h1 h2 h44 hm hok)
            have q1 : ((strF (bF (n : Int) (leTo F 8 : Int) K fun i => F (16 + i)) n).toList == (strF F n).toList) = false := by
              rw [beq_eq_false_iff_ne]
              intro h
              rw [ByteArray.toList_eq, ByteArray.toList_eq] at h
              exact hok (hsec.2 (strF_inj hB hF h))
            clear hm' hv' hsec hok hE hLn hr bb2 hB hF lb hK'
            go_wp2
            go_ret3
            exact ⟨0, 0, none, 0, 5, rfl, HR.out, none_bytes _ _, l3⟩

theorem refRead_all (A : Option Addr) (n c : Nat) (F : Nat → Nat) (w : World) (hb : Bytes w A n F) (hc : n ≤ c) (hc2 : c ≤ 9223372036854775807) :
    Calls Try.prog 17 #[.slice A n c] w (RefPost F n w) := by
  by_cases hs : n < 64 ∨ 4096 < n
  · exact (refRead_size A n c w hs hb.1).mono fun e w' ⟨he, hw⟩ => ⟨0, 0, none, 0, 3, he, .inl ⟨hs, rfl, rfl, rfl⟩, none_bytes _ _, hw ▸ Below.refl _ _⟩
  · obtain ⟨b, o, rfl, _⟩ := hb.2.2 (by omega)
    exact refRead_in b o n (n - 20) c F w (by omega) (by omega) (by omega) (by omega) hc hc2 hb
end Go.Proofs.Ytmkpknjhbkbafaa
