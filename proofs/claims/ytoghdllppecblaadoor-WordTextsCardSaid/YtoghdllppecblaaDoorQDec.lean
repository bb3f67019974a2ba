/- word: how a text's first sign is read: of a text that is cut, that goes on; of a sign's own bytes. Plain. -/
import Derived.Test.YtoghdllppecblaaDoorQPlain
import Derived.Lib.TrimAscii
namespace Go.Proofs.YtoghdllppecblaaDoor
open Go.RowKit
set_option linter.unusedVariables false
set_option linter.unusedSimpArgs false

open Lib (decodeN decodeL)
theorem dN1 {n b0 b1 b2 b3 : Nat} (h : b0 < 128) : decodeN n b0 b1 b2 b3 = (b0, 1) := Lib.decodeN_ascii _ _ _ _ _ h
theorem dN2 {n b0 b1 b2 b3 : Nat} (c1 : b0 / 32 = 6) (c2 : 1 < n) (c3 : b1 / 64 = 2) (cv : 128 ≤ b0 % 32 * 64 + b1 % 64) : decodeN n b0 b1 b2 b3 = (b0 % 32 * 64 + b1 % 64, 2) := by
  unfold decodeN
  rw [if_neg (by omega), if_pos ⟨c1, c2, c3⟩, if_pos cv]
theorem dN3 {n b0 b1 b2 b3 : Nat} (c1 : b0 / 16 = 14) (c2 : 2 < n) (c3 : b1 / 64 = 2) (c4 : b2 / 64 = 2) (cv : 2048 ≤ b0 % 16 * 4096 + b1 % 64 * 64 + b2 % 64)
    (cs : b0 % 16 * 4096 + b1 % 64 * 64 + b2 % 64 < 55296 ∨ 57344 ≤ b0 % 16 * 4096 + b1 % 64 * 64 + b2 % 64) : decodeN n b0 b1 b2 b3 = (b0 % 16 * 4096 + b1 % 64 * 64 + b2 % 64, 3) := by
  unfold decodeN
  rw [if_neg (by omega), if_neg (by omega), if_pos ⟨c1, ⟨by omega, c3⟩, c2, c4⟩, if_pos ⟨cv, by omega⟩]
theorem dN4 {n b0 b1 b2 b3 : Nat} (c1 : b0 / 8 = 30) (c2 : 3 < n) (c3 : b1 / 64 = 2) (c4 : b2 / 64 = 2) (c5 : b3 / 64 = 2) (cv : 65536 ≤ b0 % 8 * 262144 + b1 % 64 * 4096 + b2 % 64 * 64 + b3 % 64)
    (cw : b0 % 8 * 262144 + b1 % 64 * 4096 + b2 % 64 * 64 + b3 % 64 ≤ 1114111) : decodeN n b0 b1 b2 b3 = (b0 % 8 * 262144 + b1 % 64 * 4096 + b2 % 64 * 64 + b3 % 64, 4) := by
  unfold decodeN
  rw [if_neg (by omega), if_neg (by omega), if_neg (by omega), if_pos ⟨c1, ⟨by omega, c3⟩, ⟨by omega, c4⟩, c2, c5⟩, if_pos ⟨cv, by omega⟩]
/-- What is read of bytes that begin alike, where the sign that is read lies within both. -/
theorem dN_good {n m b0 b1 b2 b3 c1 c2 c3 : Nat} (hg : ¬ decodeN n b0 b1 b2 b3 = (65533, 1)) (hm : (decodeN n b0 b1 b2 b3).2 ≤ m)
    (h1 : 1 < (decodeN n b0 b1 b2 b3).2 → c1 = b1) (h2 : 2 < (decodeN n b0 b1 b2 b3).2 → c2 = b2) (h3 : 3 < (decodeN n b0 b1 b2 b3).2 → c3 = b3) : decodeN m b0 c1 c2 c3 = decodeN n b0 b1 b2 b3 := by
  rcases Lib.decodeN_shape n b0 b1 b2 b3 with ⟨c, e⟩ | ⟨d1, d2, d3, cv, e⟩ | ⟨d1, d2, d3, d4, cv, cs, e⟩ | ⟨d1, d2, d3, d4, d5, cv, cw, e⟩ | e
  · rw [e]; exact dN1 c
  · rw [e] at hm h1 ⊢
    dsimp only at hm h1
    rw [h1 (by omega)]
    exact dN2 d1 (by omega) d3 cv
  · rw [e] at hm h1 h2 ⊢
    dsimp only at hm h1 h2
    rw [h1 (by omega), h2 (by omega)]
    exact dN3 d1 (by omega) d3 d4 cv cs
  · rw [e] at hm h1 h2 h3 ⊢
    dsimp only at hm h1 h2 h3
    rw [h1 (by omega), h2 (by omega), h3 (by omega)]
    exact dN4 d1 (by omega) d3 d4 d5 cv cw
  · exact absurd e hg
theorem getD_take {l : List UInt8} {k i : Nat} (h : i < k) : (l.take k).getD i 0 = l.getD i 0 := by
  simp [List.getD, List.getElem?_take, h]
theorem getD_app {l t : List UInt8} {i : Nat} (h : i < l.length) : (l ++ t).getD i 0 = l.getD i 0 := by
  simp [List.getD, List.getElem?_append_left h]
theorem take_ne {l : List UInt8} {k : Nat} (h : l ≠ []) (hk : 0 < k) : l.take k ≠ [] := by
  cases l with
  | nil => exact absurd rfl h
  | cons a l => cases k with
    | zero => omega
    | succ k => simp
/-- Of a text that is cut behind its first sign. -/
theorem dec_take {l : List UInt8} {k : Nat} (hne : l ≠ []) (hg : ¬ decodeL l = (65533, 1)) (hk : (decodeL l).2 ≤ k) : decodeL (l.take k) = decodeL l := by
  have hl : 0 < l.length := List.length_pos_iff.2 hne
  have hle := Lib.decodeL_le l hne
  have hw := Lib.decodeL_width l
  rw [Lib.decodeL_N (l.take k)]
  rw [Lib.decodeL_N l] at hg hk hle hw ⊢
  have e0 : (l.take k).getD 0 0 = l.getD 0 0 := getD_take (by omega)
  rw [e0]
  refine dN_good hg (by rw [List.length_take]; omega) (fun h => ?_) (fun h => ?_) (fun h => ?_)
  · rw [getD_take (by omega)]
  · rw [getD_take (by omega)]
  · rw [getD_take (by omega)]
/-- Of a text behind which a blank stands. -/
theorem dec_blank {l t : List UInt8} (hne : l ≠ []) : decodeL (l ++ 32 :: t) = decodeL l := by
  have hl : 0 < l.length := List.length_pos_iff.2 hne
  have hle := Lib.decodeL_le l hne
  have e0 : (l ++ 32 :: t).getD 0 0 = l.getD 0 0 := getD_app hl
  have en : (l ++ 32 :: t).getD l.length 0 = 32 := by simp [List.getD]
  have ei : ∀ i, i < l.length → (l ++ 32 :: t).getD i 0 = l.getD i 0 := fun i hi => getD_app hi
  have hlen : (l ++ 32 :: t).length = l.length + 1 + t.length := by simp; omega
  rw [Lib.decodeL_N (l ++ 32 :: t), e0]
  rw [Lib.decodeL_N l] at hle ⊢
  by_cases hg : decodeN l.length (l.getD 0 0).toNat (l.getD 1 0).toNat (l.getD 2 0).toNat (l.getD 3 0).toNat = (65533, 1)
  · rw [hg]
    have hn : ∀ i, 0 < i → ((l ++ 32 :: t).getD i 0).toNat / 64 = 2 → i ≠ l.length := fun i _ h e => by rw [e, en] at h; revert h; decide
    rcases Lib.decodeN_shape (l ++ 32 :: t).length (l.getD 0 0).toNat ((l ++ 32 :: t).getD 1 0).toNat ((l ++ 32 :: t).getD 2 0).toNat ((l ++ 32 :: t).getD 3 0).toNat with ⟨c, e⟩ | ⟨d1, d2, d3, cv, e⟩ | ⟨d1, d2, d3, d4, cv, cs, e⟩ | ⟨d1, d2, d3, d4, d5, cv, cw, e⟩ | e
    · rw [dN1 c] at hg
      injection hg with hg
      omega
    · have h1 := hn 1 (by omega) d3
      rw [ei 1 (by omega)] at d3 cv
      rw [dN2 d1 (by omega) d3 cv] at hg
      injection hg with _ hg
      omega
    · have h1 := hn 1 (by omega) d3
      have h2 := hn 2 (by omega) d4
      rw [ei 1 (by omega)] at d3 cv cs
      rw [ei 2 (by omega)] at d4 cv cs
      rw [dN3 d1 (by omega) d3 d4 cv cs] at hg
      injection hg with _ hg
      omega
    · have h1 := hn 1 (by omega) d3
      have h2 := hn 2 (by omega) d4
      have h3 := hn 3 (by omega) d5
      rw [ei 1 (by omega)] at d3 cv cw
      rw [ei 2 (by omega)] at d4 cv cw
      rw [ei 3 (by omega)] at d5 cv cw
      rw [dN4 d1 (by omega) d3 d4 d5 cv cw] at hg
      injection hg with _ hg
      omega
    · exact e
  · refine dN_good hg (by omega) (fun h => ?_) (fun h => ?_) (fun h => ?_)
    · rw [ei 1 (by omega)]
    · rw [ei 2 (by omega)]
    · rw [ei 3 (by omega)]
end Go.Proofs.YtoghdllppecblaaDoor
