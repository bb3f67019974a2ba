/- Bytes as a string; Build and the document's Build in one form, whatever the arguments. -/
import Derived.Test.YtmkpknjhbkbafaaFRefBuild
import Derived.Test.YtmkpknjhbkbafaaFLawChecks
import Derived.Laws.BytesArg
namespace Go.Proofs.Ytmkpknjhbkbafaa
open Go.RowKit

def strF (F : Nat → Nat) (n : Nat) : ByteArray := strOfNums ((List.range n).map fun i => (F i : Int))
theorem strF_congr {F G : Nat → Nat} {n : Nat} (h : ∀ i, i < n → F i = G i) : strF F n = strF G n := by
  unfold strF
  congr 1
  apply List.map_congr_left
  intro i hi
  rw [h i (List.mem_range.1 hi)]
theorem strF_list (F : Nat → Nat) (n : Nat) : (strF F n).data.toList = (List.range n).map fun i => UInt8.ofNat (F i) := by
  unfold strF
  rw [strOfNums_data, List.map_map]
  rfl
theorem strF_inj {F G : Nat → Nat} {n : Nat} (hF : ∀ i, i < n → F i < 256) (hG : ∀ i, i < n → G i < 256) (h : (strF F n).data.toList = (strF G n).data.toList) : ∀ i, i < n → F i = G i := by
  rw [strF_list, strF_list] at h
  intro i hi
  have h1 := congrArg (fun l => l[i]?) h
  simp [hi] at h1
  have h2 := congrArg UInt8.toNat h1
  simp at h2
  have := hF i hi
  have := hG i hi
  omega

theorem conv_any {w : World} {A : Option Addr} {n : Nat} {F : Nat → Nat} (c : Nat) (h : Bytes w A n F) :
    (convert 22 9 (.slice A n c)).run Try.prog w = .ok (.string (strF F n)) w := by
  rcases Nat.eq_zero_or_pos n with h0 | h0
  · subst h0
    rcases A with _ | ad
    · rw [run_convert_bytes_nil w 22 5 Try.underlying22 Try.underlying5 0 c 9 Try.underlying9]
      rfl
    · rw [run_convert_bytes_string w _ _ _ _ 0 c Try.underlying22 Try.underlying5 Try.underlying9,
        run_bytesToString w ad 0 c [] (run_loadCells_list w ad [] (fun j v hj => by simp at hj))]
      rfl
  · obtain ⟨b, o, rfl, hc⟩ := h.2.2 h0
    exact run_convert_bytes_arg w 22 5 Try.underlying22 Try.underlying5 b o n c _ (by simp) (fun i hi => by rw [hc i hi]; simp [hi]) 9 Try.underlying9

/-- Build's error number, the length of what it makes, its bytes. -/
def bErr (size mark : Int) (n : Nat) : Int := if size < 64 ∨ 4096 < size then 3 else if mark < 1 ∨ 4611686018427387904 < mark then 2 else if size - 36 < n then 9 else 0
def bLen (size mark : Int) (n : Nat) : Nat := if bErr size mark n = 0 then size.toNat else 0
def bF (size mark : Int) (n : Nat) (F : Nat → Nat) : Nat → Nat := secF (size.toNat - 20) mark.toNat n F
theorem bErr_1 {size mark : Int} {n : Nat} (h : size < 64 ∨ 4096 < size) : bErr size mark n = 3 := if_pos h
theorem bErr_2 {size mark : Int} {n : Nat} (h : ¬ (size < 64 ∨ 4096 < size)) (h2 : mark < 1 ∨ 4611686018427387904 < mark) : bErr size mark n = 2 := by unfold bErr; rw [if_neg h, if_pos h2]
theorem bErr_3 {size mark : Int} {n : Nat} (h : ¬ (size < 64 ∨ 4096 < size)) (h2 : ¬ (mark < 1 ∨ 4611686018427387904 < mark)) (h3 : size - 36 < n) : bErr size mark n = 9 := by unfold bErr; rw [if_neg h, if_neg h2, if_pos h3]
theorem bErr_0 {size mark : Int} {n : Nat} (h : ¬ (size < 64 ∨ 4096 < size)) (h2 : ¬ (mark < 1 ∨ 4611686018427387904 < mark)) (h3 : ¬ size - 36 < n) : bErr size mark n = 0 := by unfold bErr; rw [if_neg h, if_neg h2, if_neg h3]

theorem none_bytes (w : World) (F : Nat → Nat) : Bytes w none 0 F := ⟨by omega, fun i hi => absurd hi (by omega), fun h => absurd h (by omega)⟩

theorem build_all (size mark : Int) (n c : Nat) (A : Option Addr) (F : Nat → Nat) (w : World) (hb : Bytes w A n F) :
    Calls Try.prog 12 #[.int .i64 size, .int .i64 mark, .slice A n c] w fun e w' =>
      ∃ B d, e = .returned (.tuple #[.slice B (bLen size mark n) d, .int .i64 (bErr size mark n)]) ∧ Bytes w' B (bLen size mark n) (bF size mark n F) ∧ Below w.heap.size w w' := by
  unfold bLen
  by_cases h1 : size < 64 ∨ 4096 < size
  · rw [bErr_1 h1]
    exact (build_size size mark A n c w h1).mono fun e w' ⟨he, hw⟩ => ⟨none, 0, he, none_bytes _ _, hw ▸ Below.refl _ _⟩
  · by_cases h2 : mark < 1 ∨ 4611686018427387904 < mark
    · rw [bErr_2 h1 h2]
      exact (build_mark size mark A n c w (by omega) (by omega) h2).mono fun e w' ⟨he, hw⟩ => ⟨none, 0, he, none_bytes _ _, hw ▸ Below.refl _ _⟩
    · by_cases h3 : size - 36 < n
      · rw [bErr_3 h1 h2 h3]
        exact (build_long size mark A n c w (by omega) (by omega) (by omega) (by omega) h3 hb.1).mono fun e w' ⟨he, hw⟩ => ⟨none, 0, he, none_bytes _ _, hw ▸ Below.refl _ _⟩
      · rw [bErr_0 h1 h2 h3, if_pos rfl]
        obtain ⟨s, rfl⟩ := Int.eq_ofNat_of_zero_le (show 0 ≤ size by omega)
        obtain ⟨k, rfl⟩ := Int.eq_ofNat_of_zero_le (show 0 ≤ mark by omega)
        refine (build_ok s (s - 20) k n c A F w (by omega) (by omega) (by omega) (by omega) (by omega) (by omega) (by omega) hb).mono fun e w' ⟨he, hr, hl⟩ => ?_
        exact ⟨_, _, he, ((hr.bytes (o := 0) (m := s) (by omega)).congr fun i _ => by rw [Nat.zero_add]; rfl), hl⟩

theorem refBuild_all (size mark : Int) (n c : Nat) (A : Option Addr) (F : Nat → Nat) (w : World) (hb : Bytes w A n F) (hnil : A = none → c = 0) :
    Calls Try.prog 13 #[.int .i64 size, .int .i64 mark, .slice A n c] w fun e w' =>
      ∃ B d, e = .returned (.tuple #[.slice B (bLen size mark n) d, .int .i64 (bErr size mark n)]) ∧ Bytes w' B (bLen size mark n) (bF size mark n F) ∧ Below w.heap.size w w' := by
  unfold bLen
  by_cases h1 : size < 64 ∨ 4096 < size
  · rw [bErr_1 h1]
    exact (refBuild_size size mark A n c w h1).mono fun e w' ⟨he, hw⟩ => ⟨none, 0, he, none_bytes _ _, hw ▸ Below.refl _ _⟩
  · by_cases h2 : mark < 1 ∨ 4611686018427387904 < mark
    · rw [bErr_2 h1 h2]
      exact (refBuild_mark size mark A n c w (by omega) (by omega) h2).mono fun e w' ⟨he, hw⟩ => ⟨none, 0, he, none_bytes _ _, hw ▸ Below.refl _ _⟩
    · by_cases h3 : size - 36 < n
      · rw [bErr_3 h1 h2 h3]
        exact (refBuild_long size mark A n c w (by omega) (by omega) (by omega) (by omega) h3).mono fun e w' ⟨he, hw⟩ => ⟨none, 0, he, none_bytes _ _, hw ▸ Below.refl _ _⟩
      · rw [bErr_0 h1 h2 h3, if_pos rfl]
        obtain ⟨s, rfl⟩ := Int.eq_ofNat_of_zero_le (show 0 ≤ size by omega)
        obtain ⟨k, rfl⟩ := Int.eq_ofNat_of_zero_le (show 0 ≤ mark by omega)
        refine (refBuild_ok s (s - 20) k n c A F w (by omega) (by omega) (by omega) (by omega) (by omega) (by omega) (by omega) hb hnil).mono fun e w' ⟨B, d, he, hr, hl⟩ => ?_
        exact ⟨B, d, he, hr.bytes, hl⟩

set_option maxHeartbeats 1000000 in
theorem frameBuilds_walk (size mark : Int) (A : Option Addr) (n c : Nat) (F : Nat → Nat) (w : World) (hs1 : -9223372036854775808 ≤ size) (hs2 : size ≤ 9223372036854775807) (hb : Bytes w A n F) (hnil : A = none → c = 0) :
    Calls Try.prog 4 #[.int .i64 size, .int .i64 mark, .slice A n c] w fun e w' => e = .returned (.bool true) ∧ Below w.heap.size w w' := by
  have hn := hb.1
  by_cases hlen : 5000 < n
  · go_enter Try.func4, Try.ntmps4
    go_wp2
    go_ret
    exact ⟨rfl, Below.refl _ _⟩
  · have L1 := (Below.refl w.heap.size w).alloc (Nat.le_refl _) (.cells #[] 5)
    have hb1 := hb.below L1 (Nat.le_refl _)
    have ho := own_empty w F
    have H1 := Lib.hid hb1
    have HO := Lib.hid ho
    have HL := Lib.hid L1
    have HN := Lib.hid hnil
    clear hb1 ho L1 hnil
    go_enter Try.func4, Try.ntmps4
    go_wp2_with (at_builtin; with_reducible refine wpList_append_bytes _ rfl (.tmp 17) (.tmp 18) 22 rfl Try.underlying22 u8infoAll w.heap.size _ _ _ _ rfl HO.out _ _ _ _ rfl H1.out HN.out ?d1 ?d2 ?d3)
    case d1 => omega
    case d2 => simp
    case d3 =>
      intro A1 c1 w1 o1 g1 _
      have l1 : Below w.heap.size w w1 := HL.out.grown g1 (by simp) (by rintro k ⟨⟩; exact Nat.le_refl _)
      have b1 := o1.bytes.congr (G := F) fun i _ => by unfold catF; rw [if_neg (by omega), Nat.sub_zero]
      have B1 := Lib.hid b1
      have Z1 := Lib.hid l1
      clear o1 g1 b1 l1
      go_wp2_with fail
      refine (build_all size mark n _ _ F w1 B1.out).mono ?_
      rintro e w2 ⟨B2, d2, rfl, b2, l2⟩
      have l3 : Below w.heap.size w w2 := Z1.out.trans (l2.mono Z1.out.size)
      have s2 := hb.below l3 (Nat.le_refl _)
      have B2' := Lib.hid b2
      have S2 := Lib.hid s2
      clear b2 s2 l2 B1 Z1
      go_wp2_with fail
      refine (refBuild_all size mark n _ _ F w2 S2.out HN.out).mono ?_
      rintro e w3 ⟨B3, d3, rfl, b3, l4⟩
      have k2 := conv_any d2 (B2'.out.below l4 (Nat.le_refl _))
      have k3 := conv_any d3 b3
      have l5 : Below w.heap.size w w3 := l3.trans (l4.mono l3.size)
      clear l3 l4 b3
      have q1 : ((strF (bF size mark n F) (bLen size mark n)).toList == (strF (bF size mark n F) (bLen size mark n)).toList) = true := by simp
      have q2 : (bErr size mark n == bErr size mark n) = true := by simp
      go_wp2_with fail
      refine (room_any size w3 hs1 hs2).mono ?_
      rintro e w' ⟨rfl, rfl⟩
      go_wp2_with fail
      refine (refRoom_any size w3 hs1 hs2).mono ?_
      rintro e w' ⟨rfl, rfl⟩
      have q3 : (roomI size == roomI size) = true := by simp
      clear k2 k3
      go_wp2_with fail
      refine (awake_any w3).mono ?_
      rintro e w4 ⟨rfl, l6⟩
      have l7 : Below w.heap.size w w4 := l5.trans (l6.mono l5.size)
      clear l6 l5
      go_wp2
      go_ret
      exact ⟨rfl, l7⟩
end Go.Proofs.Ytmkpknjhbkbafaa
