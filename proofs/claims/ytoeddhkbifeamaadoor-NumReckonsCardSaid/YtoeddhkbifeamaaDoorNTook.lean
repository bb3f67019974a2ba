/- num.cut's closure that takes one of some signs. -/
import Derived.Test.YtoeddhkbifeamaaDoorNRun
namespace Go.Proofs.YtoeddhkbifeamaaDoor
open Go.RowKit
set_option linter.unusedVariables false

theorem index_any (S : ByteArray) (c : UInt8) (q : Int) (hq : q = Lib.indexByte S.data.toList c) (w : World) :
    Calls Tryd.prog 36 #[.string S, .int .u8 (c.toNat : Int)] w fun e w' => e = .returned (.int .i64 q) ∧ w = w' := by
  refine (Tryd.strings_IndexByte S (c.toNat : Int) w).mono ?_
  rintro e w' ⟨rfl, rfl⟩
  refine ⟨ret_i64 ?_, rfl⟩
  rw [hq]
  congr 1
  simp
theorem sign_index (s : ByteArray) (i : Nat) (S : ByteArray) (h : i < s.size) : decide (Lib.indexByte S.data.toList s[i] < 0) = !signAt s i S.data.toList := by
  rw [signAt_in s i _ h, index_lt]
/-- Where it goes on behind a sign that may come. -/
def tookI (s : ByteArray) (i : Nat) (S : List UInt8) : Nat := if signAt s i S = true then i + 1 else i
theorem tookI_le (s : ByteArray) (i : Nat) (S : List UInt8) (h : i ≤ s.size) : tookI s i S ≤ s.size := by
  unfold tookI
  split
  · rename_i h1
    have := signAt_lt h1
    omega
  · exact h
set_option maxHeartbeats 1000000 in
set_option maxRecDepth 100000 in
theorem took_any (S : ByteArray) (ba bs i : Nat) (s : ByteArray) (w : World) (h : At w ba bs i s) (hi : i ≤ s.size) (hs : s.size ≤ 9223372036854775807) :
    Calls Tryd.prog 35 #[.string S, .pointer (some ⟨ba, 0, none⟩), .pointer (some ⟨bs, 0, none⟩)] w fun e w' =>
      e = .returned (.bool (signAt s i S.data.toList)) ∧ At w' ba bs (tookI s i S.data.toList) s ∧ w.grownBy w' (some ba) := by
  have ca := cell_of_one h.1
  have cs := cell_of_one h.2
  have fa := free_of_one h.1
  have H := Lib.hid h
  rcases Nat.lt_or_ge i s.size with hlt | hge
  · have hx := sign_index s i S hlt
    obtain ⟨q, hq⟩ : ∃ q, q = Lib.indexByte S.data.toList s[i] := ⟨_, rfl⟩
    have CI := Lib.hid fun W => index_any S s[i] q hq W
    have hne : decide ((i : Nat) = s.size) = false := by simp; omega
    have hne2 : ((i : Int) == (s.size : Int)) = false := by simp; omega
    rw [← hq] at hx
    cases ht : signAt s i S.data.toList
    · have ei : tookI s i S.data.toList = i := if_neg (by rw [ht]; simp)
      rw [ei]
      rw [ht] at hx
      have hq0 : q < 0 := by simpa using hx
      clear hx hq ht ei h
      go_enter Tryd.func35, Tryd.ntmps35
      go_wp2_with (go_at_call 36; refine (CI.out _).mono ?_; rintro e w' ⟨rfl, rfl⟩)
      go_ret
      exact ⟨rfl, H.out, grown_below (Below.refl _ _)⟩
    · have ei : tookI s i S.data.toList = i + 1 := if_pos ht
      rw [ei]
      rw [ht] at hx
      have hq0 : ¬ q < 0 := by simpa using hx
      have HT := Lib.hid (At.next (j := i + 1) H.out (grown_store w ⟨ba, 0, none⟩ (.int .i64 ((i : Int) + 1))) (by rw [one_setCell h.1]; rfl))
      clear hx hq ht ei h
      go_enter Tryd.func35, Tryd.ntmps35
      go_wp2_with (go_at_call 36; refine (CI.out _).mono ?_; rintro e w' ⟨rfl, rfl⟩)
      go_ret
      exact ⟨rfl, HT.out, grown_store _ _ _⟩
  · obtain rfl : i = s.size := by omega
    have ht := signAt_end s S.data.toList
    have ei : tookI s s.size S.data.toList = s.size := if_neg (by rw [ht]; simp)
    rw [ei, ht]
    clear ei ht h
    go_enter Tryd.func35, Tryd.ntmps35
    go_wp2
    go_ret
    exact ⟨rfl, H.out, grown_below (Below.refl _ _)⟩
end Go.Proofs.YtoeddhkbifeamaaDoor
