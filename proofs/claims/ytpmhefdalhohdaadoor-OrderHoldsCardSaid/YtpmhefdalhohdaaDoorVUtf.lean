/- The document's sign, Utf; is a text UTF-8? -/
import Derived.Test.YtpmhefdalhohdaaDoorVTree
import Derived.Lib.ValidLaws
import Derived.Lib.TrimUEq
import Derived.LoopTactic
import Derived.Deep.DeepCutAuto
import Derived.Deep.CutBlock
namespace Go.Proofs.YtpmhefdalhohdaaDoor
open Go.RowKit
set_option linter.unusedVariables false

/-- How many bytes the sign has with which some bytes begin; 0: it is none. -/
def signN (n b0 b1 b2 b3 : Nat) : Nat :=
  if b0 < 128 then 1
  else if 194 ≤ b0 ∧ b0 ≤ 223 then (if 2 ≤ n ∧ (128 ≤ b1 ∧ b1 ≤ 191) then 2 else 0)
  else if 224 ≤ b0 ∧ b0 ≤ 239 then (if 3 ≤ n ∧ (128 ≤ b1 ∧ b1 ≤ 191) ∧ (128 ≤ b2 ∧ b2 ≤ 191) ∧ 2048 ≤ 64 * (64 * (b0 - 224) + (b1 - 128)) + (b2 - 128) ∧ ¬ (55296 ≤ 64 * (64 * (b0 - 224) + (b1 - 128)) + (b2 - 128) ∧ 64 * (64 * (b0 - 224) + (b1 - 128)) + (b2 - 128) ≤ 57343) then 3 else 0)
  else if 240 ≤ b0 ∧ b0 ≤ 244 then (if 4 ≤ n ∧ (128 ≤ b1 ∧ b1 ≤ 191) ∧ (128 ≤ b2 ∧ b2 ≤ 191) ∧ (128 ≤ b3 ∧ b3 ≤ 191) ∧ 65536 ≤ 64 * (64 * (64 * (b0 - 240) + (b1 - 128)) + (b2 - 128)) + (b3 - 128) ∧ 64 * (64 * (64 * (b0 - 240) + (b1 - 128)) + (b2 - 128)) + (b3 - 128) ≤ 1114111 then 4 else 0)
  else 0
set_option maxHeartbeats 4000000 in
theorem signN_dec (n b0 b1 b2 b3 : Nat) (h0 : b0 < 256) (h1 : b1 < 256) (h2 : b2 < 256) (h3 : b3 < 256) :
    signN n b0 b1 b2 b3 = if (Lib.decodeN n b0 b1 b2 b3).1 = 65533 ∧ (Lib.decodeN n b0 b1 b2 b3).2 = 1 then 0 else (Lib.decodeN n b0 b1 b2 b3).2 := by
  by_cases c1 : b0 < 128
  · unfold signN Lib.decodeN
    rw [if_pos c1, if_pos c1, if_neg (by simp; omega)]
  · by_cases c2 : 194 ≤ b0 ∧ b0 ≤ 223
    · have d : Lib.decodeN n b0 b1 b2 b3 = if 1 < n ∧ b1 / 64 = 2 then (b0 % 32 * 64 + b1 % 64, 2) else (65533, 1) := by
        unfold Lib.decodeN
        rw [if_neg c1]
        by_cases e : 1 < n ∧ b1 / 64 = 2
        · rw [if_pos ⟨by omega, e⟩, if_pos e, if_pos (by omega)]
        · rw [if_neg (fun h => e h.2), if_neg e, if_neg (by omega), if_neg (by omega)]
      unfold signN
      rw [d, if_neg c1, if_pos c2]
      by_cases e : 1 < n ∧ b1 / 64 = 2
      · rw [if_pos e, if_pos (by omega), if_neg (by simp)]
      · rw [if_neg e, if_neg (by omega), if_pos ⟨rfl, rfl⟩]
    · by_cases c3 : 224 ≤ b0 ∧ b0 ≤ 239
      · have d : Lib.decodeN n b0 b1 b2 b3 = if (1 < n ∧ b1 / 64 = 2) ∧ (2 < n ∧ b2 / 64 = 2) then (if b0 % 16 * 4096 + b1 % 64 * 64 + b2 % 64 ≥ 2048 ∧ (b0 % 16 * 4096 + b1 % 64 * 64 + b2 % 64 < 55296 ∨ 57343 < b0 % 16 * 4096 + b1 % 64 * 64 + b2 % 64) then (b0 % 16 * 4096 + b1 % 64 * 64 + b2 % 64, 3) else (65533, 1)) else (65533, 1) := by
          unfold Lib.decodeN
          rw [if_neg c1, if_neg (by omega)]
          by_cases e : (1 < n ∧ b1 / 64 = 2) ∧ (2 < n ∧ b2 / 64 = 2)
          · rw [if_pos ⟨by omega, e⟩, if_pos e]
            by_cases e2 : b0 % 16 * 4096 + b1 % 64 * 64 + b2 % 64 ≥ 2048 ∧ (b0 % 16 * 4096 + b1 % 64 * 64 + b2 % 64 < 55296 ∨ 57343 < b0 % 16 * 4096 + b1 % 64 * 64 + b2 % 64)
            · rw [if_pos (by omega), if_pos e2]
            · rw [if_neg (by omega), if_neg e2]
          · rw [if_neg (fun h => e h.2), if_neg e, if_neg (by omega)]
        unfold signN
        rw [d, if_neg c1, if_neg c2, if_pos c3]
        by_cases e : (1 < n ∧ b1 / 64 = 2) ∧ (2 < n ∧ b2 / 64 = 2)
        · rw [if_pos e]
          by_cases e2 : b0 % 16 * 4096 + b1 % 64 * 64 + b2 % 64 ≥ 2048 ∧ (b0 % 16 * 4096 + b1 % 64 * 64 + b2 % 64 < 55296 ∨ 57343 < b0 % 16 * 4096 + b1 % 64 * 64 + b2 % 64)
          · rw [if_pos e2, if_pos (by omega), if_neg (by simp)]
          · rw [if_neg e2, if_neg (by omega), if_pos ⟨rfl, rfl⟩]
        · rw [if_neg e, if_neg (by omega), if_pos ⟨rfl, rfl⟩]
      · unfold signN
        rw [if_neg c1, if_neg c2, if_neg c3]
        have d : Lib.decodeN n b0 b1 b2 b3 = if (240 ≤ b0 ∧ b0 ≤ 247) ∧ (1 < n ∧ b1 / 64 = 2) ∧ (2 < n ∧ b2 / 64 = 2) ∧ (3 < n ∧ b3 / 64 = 2) then (if b0 % 8 * 262144 + b1 % 64 * 4096 + b2 % 64 * 64 + b3 % 64 ≥ 65536 ∧ b0 % 8 * 262144 + b1 % 64 * 4096 + b2 % 64 * 64 + b3 % 64 ≤ 1114111 then (b0 % 8 * 262144 + b1 % 64 * 4096 + b2 % 64 * 64 + b3 % 64, 4) else (65533, 1)) else (65533, 1) := by
          unfold Lib.decodeN
          rw [if_neg c1]
          by_cases q : b0 / 32 = 6 ∧ (1 < n ∧ b1 / 64 = 2)
          · rw [if_pos q, if_neg (by omega), if_neg (by omega)]
          · rw [if_neg q, if_neg (by omega)]
            by_cases e : (240 ≤ b0 ∧ b0 ≤ 247) ∧ (1 < n ∧ b1 / 64 = 2) ∧ (2 < n ∧ b2 / 64 = 2) ∧ (3 < n ∧ b3 / 64 = 2)
            · rw [if_pos (by omega), if_pos e]
              by_cases e2 : b0 % 8 * 262144 + b1 % 64 * 4096 + b2 % 64 * 64 + b3 % 64 ≥ 65536 ∧ b0 % 8 * 262144 + b1 % 64 * 4096 + b2 % 64 * 64 + b3 % 64 ≤ 1114111
              · rw [if_pos (by omega), if_pos e2]
              · rw [if_neg (by omega), if_neg e2]
            · rw [if_neg (by omega), if_neg e]
        rw [d]
        by_cases c4 : 240 ≤ b0 ∧ b0 ≤ 244
        · rw [if_pos c4]
          by_cases e : (240 ≤ b0 ∧ b0 ≤ 247) ∧ (1 < n ∧ b1 / 64 = 2) ∧ (2 < n ∧ b2 / 64 = 2) ∧ (3 < n ∧ b3 / 64 = 2)
          · rw [if_pos e]
            by_cases e2 : b0 % 8 * 262144 + b1 % 64 * 4096 + b2 % 64 * 64 + b3 % 64 ≥ 65536 ∧ b0 % 8 * 262144 + b1 % 64 * 4096 + b2 % 64 * 64 + b3 % 64 ≤ 1114111
            · rw [if_pos e2, if_pos (by omega), if_neg (by simp)]
            · rw [if_neg e2, if_neg (by omega), if_pos ⟨rfl, rfl⟩]
          · rw [if_neg e, if_neg (by omega), if_pos ⟨rfl, rfl⟩]
        · rw [if_neg c4]
          by_cases e : (240 ≤ b0 ∧ b0 ≤ 247) ∧ (1 < n ∧ b1 / 64 = 2) ∧ (2 < n ∧ b2 / 64 = 2) ∧ (3 < n ∧ b3 / 64 = 2)
          · rw [if_pos e]
            have e2 : ¬ (b0 % 8 * 262144 + b1 % 64 * 4096 + b2 % 64 * 64 + b3 % 64 ≥ 65536 ∧ b0 % 8 * 262144 + b1 % 64 * 4096 + b2 % 64 * 64 + b3 % 64 ≤ 1114111) := by omega
            rw [if_neg e2, if_pos ⟨rfl, rfl⟩]
          · rw [if_neg e, if_pos ⟨rfl, rfl⟩]
/-- The byte so far behind a place. -/
def byteAt (s : ByteArray) (p j : Nat) : Nat := (s.data.toList.getD (p + j) 0).toNat
def signAt (s : ByteArray) (p : Nat) : Nat := signN (s.size - p) (byteAt s p 0) (byteAt s p 1) (byteAt s p 2) (byteAt s p 3)
theorem byte_lt (s : ByteArray) (p j : Nat) : byteAt s p j < 256 := UInt8.toNat_lt _
theorem signAt_dec (s : ByteArray) (p : Nat) : signAt s p = if (Lib.decodeL (s.data.toList.drop p)).1 = 65533 ∧ (Lib.decodeL (s.data.toList.drop p)).2 = 1 then 0 else (Lib.decodeL (s.data.toList.drop p)).2 := by
  rw [Lib.decodeL_drop, Lib.decode_N]
  have e : s.data.toList.length = s.size := Array.length_toList
  rw [e]
  exact signN_dec _ _ _ _ _ (byte_lt s p 0) (byte_lt s p 1) (byte_lt s p 2) (byte_lt s p 3)
theorem signAt_le (s : ByteArray) (p : Nat) (h : p < s.size) : signAt s p ≤ s.size - p := by
  unfold signAt signN
  repeat' split
  all_goals omega
/-- From a place on. -/
def utfFrom (s : ByteArray) (p : Nat) : Bool := Lib.validD (s.data.toList.drop p)
theorem utf_step (s : ByteArray) (p : Nat) (h : p < s.size) : utfFrom s p = if signAt s p = 0 then false else utfFrom s (p + signAt s p) := by
  have hne : s.data.toList.drop p ≠ [] := by
    have e : s.data.toList.length = s.size := Array.length_toList
    intro e2
    have := congrArg List.length e2
    simp [e] at this
    omega
  have hw := Lib.decodeL_width (s.data.toList.drop p)
  unfold utfFrom
  rw [Lib.validD_step _ hne, signAt_dec]
  by_cases c : (Lib.decodeL (s.data.toList.drop p)).1 = 65533 ∧ (Lib.decodeL (s.data.toList.drop p)).2 = 1
  · rw [if_pos c, if_pos c, if_pos rfl]
  · rw [if_neg c, if_neg c, if_neg (by omega), List.drop_drop]
theorem utf_end (s : ByteArray) : utfFrom s s.size = true := by
  unfold utfFrom
  have e : s.data.toList.length = s.size := Array.length_toList
  rw [← e, List.drop_length]
  rfl
theorem byte_get (s : ByteArray) (p j : Nat) (h : p + j < s.size) : (s[p + j]'h).toNat = byteAt s p j := by
  unfold byteAt
  have e : s.data.toList.length = s.size := Array.length_toList
  rw [List.getD_eq_getElem?_getD, List.getElem?_eq_getElem (by omega)]
  rfl
def accN (c0 : Int) (B : Nat → Nat) : Nat → Int
  | 0 => c0
  | k + 1 => 64 * accN c0 B k + ((B (k + 1) : Nat) : Int) - 128
def contB (B : Nat → Nat) (N : Nat) : Prop := ∀ j, 1 ≤ j → j < N → 128 ≤ B j ∧ B j ≤ 191
theorem dec_lt {a b : Int} (h : a < b) : decide (a < b) = true := decide_eq_true h
theorem dec_nlt {a b : Int} (h : ¬ a < b) : decide (a < b) = false := decide_eq_false h
set_option maxHeartbeats 4000000 in
set_option maxRecDepth 100000 in
theorem sign_2 (s : ByteArray) (p : Nat) (w : World) (hs : s.size ≤ 140737488351232) (hp : p < s.size) (l0 : 194 ≤ byteAt s p 0) (l1 : byteAt s p 0 ≤ 223) :
    Calls Tryd.prog 68 #[.string s, .int .i64 p] w fun e w' => e = .returned (.int .i64 (signAt s p)) ∧ w = w' := by
  have hb := byte_get s p 0 hp
  simp only [Nat.add_zero] at hb
  by_cases hn : 2 ≤ s.size - p
  · have hn' : ¬ ((s.size : Int) - (p : Int) < 2) := by omega
    have HB0 := Lib.hid l0
    have HB1 := Lib.hid l1
    go_enter Tryd.func68, Tryd.ntmps68
    go_wp2_with fail
    go_loopw [5, 8, 9] (fun c i _ wr => wr = w ∧ ∃ (k : Nat) (C : Int), k < 2 ∧ i = .int .i64 (k + 1 : Nat) ∧ c = .int .i64 C ∧ C = accN ((byteAt s p 0 : Int) - 192) (byteAt s p) k ∧ 0 ≤ C ∧ (k = 0 → C ≤ 31) ∧ (k = 1 → C ≤ 2047) ∧ (k = 2 → C ≤ 131071) ∧ C ≤ 8388607 ∧ contB (byteAt s p) (k + 1)) (fun _ i _ _ => 2 - (intOf i).toNat)
    case atStart => exact ⟨rfl, 0, _, by omega, rfl, rfl, rfl, by omega, fun _ => by omega, fun h => by omega, fun h => by omega, by omega, fun j h1 h2 => by omega⟩
    case round =>
      obtain ⟨rfl, k, C, hk, rfl, rfl, hC, C0, C1, C2, C3, C4, hcont⟩ := hrel
      have HC := Lib.hid hC
      have HN := Lib.hid hcont
      clear hC hcont hb
      by_cases hlt : k + 1 < 2
      · have hx := byte_get s p (k + 1) (by omega)
        have hxl := byte_lt s p (k + 1)
        have q1 : (p : Int) + ((k + 1 : Nat) : Int) = ((p + (k + 1) : Nat) : Int) := by omega
        have q2 : p + (k + 1) < s.size := by omega
        by_cases c0 : 128 ≤ byteAt s p (k + 1) ∧ byteAt s p (k + 1) ≤ 191
        · obtain ⟨c1, c2⟩ := c0
          have HX := Lib.hid (show contB (byteAt s p) (k + 1 + 1) from fun j h1 h2 => by
            rcases Nat.lt_or_ge j (k + 1) with h | h
            · exact HN.out j h1 h
            · obtain rfl : j = k + 1 := by omega
              exact ⟨c1, c2⟩)
          obtain ⟨X, hX⟩ : ∃ X, X = byteAt s p (k + 1) := ⟨_, rfl⟩
          have HXE := Lib.hid hX
          rw [← hX] at hx hxl c1 c2
          clear hX
          go_wp2_with fail
          go_roundw
          case rel =>
            refine ⟨trivial, k + 1, _, by omega, by go_num, rfl, ?_, by omega, fun _ => by omega, fun _ => by omega, fun _ => by omega, by omega, HX.out⟩
            rw [accN, HC.out, HXE.out]
          case measure => simp [intOf]; omega
        · have SG := Lib.hid (show signAt s p = 0 by
            unfold signAt signN
            rw [if_neg (by omega), if_pos ⟨HB0.out, HB1.out⟩, if_neg]
            intro hh
            apply c0
            rcases (show k = 0 ∨ k = 1 ∨ k = 2 by omega) with rfl | rfl | rfl
            all_goals first | exact hh.2 | exact hh.2.1 | exact hh.2.2.1 | exact hh.2.2.2.1 | omega)
          by_cases c1 : byteAt s p (k + 1) < 128
          · clear c0
            go_wp2_with fail
            go_ret
            exact ⟨by rw [SG.out]; rfl, rfl⟩
          · have c2 : 191 < byteAt s p (k + 1) := by omega
            clear c0
            go_wp2_with fail
            go_ret
            exact ⟨by rw [SG.out]; rfl, rfl⟩
      · obtain rfl : k = 1 := by omega
        have hC2 : C = 64 * ((byteAt s p 0 : Int) - 192) + (byteAt s p 1 : Int) - 128 := HC.out
        have HC2 := Lib.hid hC2
        clear hC2 HC
        have HSG := Lib.hid (show signAt s p = if C < 128 ∨ 1114111 < C ∨ (55296 ≤ C ∧ C ≤ 57343) then 0 else 2 by
          have k1 := HN.out 1 (by omega) (by omega)
          have hc := HC2.out
          have := HB0.out
          have := HB1.out
          unfold signAt signN
          rw [if_neg (by omega), if_pos ⟨HB0.out, HB1.out⟩]
          by_cases c : C < 128 ∨ 1114111 < C ∨ (55296 ≤ C ∧ C ≤ 57343)
          · rw [if_pos c, if_neg (by omega)]
          · rw [if_neg c, if_pos (by omega)])
        by_cases d1 : C < 128
        · have SG := Lib.hid (HSG.out.trans (if_pos (.inl d1)))
          have e1 := dec_lt d1
          go_wp2_with fail
          go_ret
          exact ⟨by rw [SG.out]; rfl, rfl⟩
        · by_cases d2 : 1114111 < C
          · have SG := Lib.hid (HSG.out.trans (if_pos (.inr (.inl d2))))
            have e1 := dec_nlt d1
            have e2 := dec_lt d2
            go_wp2_with fail
            go_ret
            exact ⟨by rw [SG.out]; rfl, rfl⟩
          · by_cases d3 : 55296 ≤ C
            · by_cases d4 : C ≤ 57343
              · have SG := Lib.hid (HSG.out.trans (if_pos (.inr (.inr ⟨d3, d4⟩))))
                have e1 := dec_nlt d1
                have e2 := dec_nlt d2
                go_wp2_with fail
                go_ret
                exact ⟨by rw [SG.out]; rfl, rfl⟩
              · have SG := Lib.hid (HSG.out.trans (if_neg (by omega)))
                have e1 := dec_nlt d1
                have e2 := dec_nlt d2
                have e3 := dec_lt (show 57343 < C by omega)
                go_wp2_with fail
                go_ret
                exact ⟨by rw [SG.out]; rfl, rfl⟩
            · have SG := Lib.hid (HSG.out.trans (if_neg (by omega)))
              have e1 := dec_nlt d1
              have e2 := dec_nlt d2
              have e3 := dec_lt (show C < 55296 by omega)
              go_wp2_with fail
              go_ret
              exact ⟨by rw [SG.out]; rfl, rfl⟩
  · have SG := Lib.hid (show signAt s p = 0 by
      unfold signAt signN
      rw [if_neg (by omega), if_pos ⟨l0, l1⟩, if_neg (by omega)])
    have hn' : (s.size : Int) - (p : Int) < 2 := by omega
    go_enter Tryd.func68, Tryd.ntmps68
    go_wp2_with fail
    go_ret
    exact ⟨by rw [SG.out]; rfl, rfl⟩
set_option maxHeartbeats 4000000 in
set_option maxRecDepth 100000 in
theorem sign_3 (s : ByteArray) (p : Nat) (w : World) (hs : s.size ≤ 140737488351232) (hp : p < s.size) (l0 : 224 ≤ byteAt s p 0) (l1 : byteAt s p 0 ≤ 239) :
    Calls Tryd.prog 68 #[.string s, .int .i64 p] w fun e w' => e = .returned (.int .i64 (signAt s p)) ∧ w = w' := by
  have hb := byte_get s p 0 hp
  simp only [Nat.add_zero] at hb
  by_cases hn : 3 ≤ s.size - p
  · have hn' : ¬ ((s.size : Int) - (p : Int) < 3) := by omega
    have HB0 := Lib.hid l0
    have HB1 := Lib.hid l1
    go_enter Tryd.func68, Tryd.ntmps68
    go_wp2_with fail
    go_loopw [5, 8, 9] (fun c i _ wr => wr = w ∧ ∃ (k : Nat) (C : Int), k < 3 ∧ i = .int .i64 (k + 1 : Nat) ∧ c = .int .i64 C ∧ C = accN ((byteAt s p 0 : Int) - 224) (byteAt s p) k ∧ 0 ≤ C ∧ (k = 0 → C ≤ 31) ∧ (k = 1 → C ≤ 2047) ∧ (k = 2 → C ≤ 131071) ∧ C ≤ 8388607 ∧ contB (byteAt s p) (k + 1)) (fun _ i _ _ => 3 - (intOf i).toNat)
    case atStart => exact ⟨rfl, 0, _, by omega, rfl, rfl, rfl, by omega, fun _ => by omega, fun h => by omega, fun h => by omega, by omega, fun j h1 h2 => by omega⟩
    case round =>
      obtain ⟨rfl, k, C, hk, rfl, rfl, hC, C0, C1, C2, C3, C4, hcont⟩ := hrel
      have HC := Lib.hid hC
      have HN := Lib.hid hcont
      clear hC hcont hb
      by_cases hlt : k + 1 < 3
      · have hx := byte_get s p (k + 1) (by omega)
        have hxl := byte_lt s p (k + 1)
        have q1 : (p : Int) + ((k + 1 : Nat) : Int) = ((p + (k + 1) : Nat) : Int) := by omega
        have q2 : p + (k + 1) < s.size := by omega
        by_cases c0 : 128 ≤ byteAt s p (k + 1) ∧ byteAt s p (k + 1) ≤ 191
        · obtain ⟨c1, c2⟩ := c0
          have HX := Lib.hid (show contB (byteAt s p) (k + 1 + 1) from fun j h1 h2 => by
            rcases Nat.lt_or_ge j (k + 1) with h | h
            · exact HN.out j h1 h
            · obtain rfl : j = k + 1 := by omega
              exact ⟨c1, c2⟩)
          obtain ⟨X, hX⟩ : ∃ X, X = byteAt s p (k + 1) := ⟨_, rfl⟩
          have HXE := Lib.hid hX
          rw [← hX] at hx hxl c1 c2
          clear hX
          go_wp2_with fail
          go_roundw
          case rel =>
            refine ⟨trivial, k + 1, _, by omega, by go_num, rfl, ?_, by omega, fun _ => by omega, fun _ => by omega, fun _ => by omega, by omega, HX.out⟩
            rw [accN, HC.out, HXE.out]
          case measure => simp [intOf]; omega
        · have SG := Lib.hid (show signAt s p = 0 by
            unfold signAt signN
            rw [if_neg (by omega), if_neg (by omega), if_pos ⟨HB0.out, HB1.out⟩, if_neg]
            intro hh
            apply c0
            rcases (show k = 0 ∨ k = 1 ∨ k = 2 by omega) with rfl | rfl | rfl
            all_goals first | exact hh.2 | exact hh.2.1 | exact hh.2.2.1 | exact hh.2.2.2.1 | omega)
          by_cases c1 : byteAt s p (k + 1) < 128
          · clear c0
            go_wp2_with fail
            go_ret
            exact ⟨by rw [SG.out]; rfl, rfl⟩
          · have c2 : 191 < byteAt s p (k + 1) := by omega
            clear c0
            go_wp2_with fail
            go_ret
            exact ⟨by rw [SG.out]; rfl, rfl⟩
      · obtain rfl : k = 2 := by omega
        have hC2 : C = 64 * (64 * ((byteAt s p 0 : Int) - 224) + (byteAt s p 1 : Int) - 128) + (byteAt s p 2 : Int) - 128 := HC.out
        have HC2 := Lib.hid hC2
        clear hC2 HC
        have HSG := Lib.hid (show signAt s p = if C < 2048 ∨ 1114111 < C ∨ (55296 ≤ C ∧ C ≤ 57343) then 0 else 3 by
          have k1 := HN.out 1 (by omega) (by omega)
          have k2 := HN.out 2 (by omega) (by omega)
          have hc := HC2.out
          have := HB0.out
          have := HB1.out
          unfold signAt signN
          rw [if_neg (by omega), if_neg (by omega), if_pos ⟨HB0.out, HB1.out⟩]
          by_cases c : C < 2048 ∨ 1114111 < C ∨ (55296 ≤ C ∧ C ≤ 57343)
          · rw [if_pos c, if_neg (by omega)]
          · rw [if_neg c, if_pos (by omega)])
        by_cases d1 : C < 2048
        · have SG := Lib.hid (HSG.out.trans (if_pos (.inl d1)))
          have e1 := dec_lt d1
          go_wp2_with fail
          go_ret
          exact ⟨by rw [SG.out]; rfl, rfl⟩
        · by_cases d2 : 1114111 < C
          · have SG := Lib.hid (HSG.out.trans (if_pos (.inr (.inl d2))))
            have e1 := dec_nlt d1
            have e2 := dec_lt d2
            go_wp2_with fail
            go_ret
            exact ⟨by rw [SG.out]; rfl, rfl⟩
          · by_cases d3 : 55296 ≤ C
            · by_cases d4 : C ≤ 57343
              · have SG := Lib.hid (HSG.out.trans (if_pos (.inr (.inr ⟨d3, d4⟩))))
                have e1 := dec_nlt d1
                have e2 := dec_nlt d2
                go_wp2_with fail
                go_ret
                exact ⟨by rw [SG.out]; rfl, rfl⟩
              · have SG := Lib.hid (HSG.out.trans (if_neg (by omega)))
                have e1 := dec_nlt d1
                have e2 := dec_nlt d2
                have e3 := dec_lt (show 57343 < C by omega)
                go_wp2_with fail
                go_ret
                exact ⟨by rw [SG.out]; rfl, rfl⟩
            · have SG := Lib.hid (HSG.out.trans (if_neg (by omega)))
              have e1 := dec_nlt d1
              have e2 := dec_nlt d2
              have e3 := dec_lt (show C < 55296 by omega)
              go_wp2_with fail
              go_ret
              exact ⟨by rw [SG.out]; rfl, rfl⟩
  · have SG := Lib.hid (show signAt s p = 0 by
      unfold signAt signN
      rw [if_neg (by omega), if_neg (by omega), if_pos ⟨l0, l1⟩, if_neg (by omega)])
    have hn' : (s.size : Int) - (p : Int) < 3 := by omega
    go_enter Tryd.func68, Tryd.ntmps68
    go_wp2_with fail
    go_ret
    exact ⟨by rw [SG.out]; rfl, rfl⟩
set_option maxHeartbeats 4000000 in
set_option maxRecDepth 100000 in
theorem sign_4 (s : ByteArray) (p : Nat) (w : World) (hs : s.size ≤ 140737488351232) (hp : p < s.size) (l0 : 240 ≤ byteAt s p 0) (l1 : byteAt s p 0 ≤ 244) :
    Calls Tryd.prog 68 #[.string s, .int .i64 p] w fun e w' => e = .returned (.int .i64 (signAt s p)) ∧ w = w' := by
  have hb := byte_get s p 0 hp
  simp only [Nat.add_zero] at hb
  by_cases hn : 4 ≤ s.size - p
  · have hn' : ¬ ((s.size : Int) - (p : Int) < 4) := by omega
    have HB0 := Lib.hid l0
    have HB1 := Lib.hid l1
    go_enter Tryd.func68, Tryd.ntmps68
    go_wp2_with fail
    go_loopw [5, 8, 9] (fun c i _ wr => wr = w ∧ ∃ (k : Nat) (C : Int), k < 4 ∧ i = .int .i64 (k + 1 : Nat) ∧ c = .int .i64 C ∧ C = accN ((byteAt s p 0 : Int) - 240) (byteAt s p) k ∧ 0 ≤ C ∧ (k = 0 → C ≤ 31) ∧ (k = 1 → C ≤ 2047) ∧ (k = 2 → C ≤ 131071) ∧ C ≤ 8388607 ∧ contB (byteAt s p) (k + 1)) (fun _ i _ _ => 4 - (intOf i).toNat)
    case atStart => exact ⟨rfl, 0, _, by omega, rfl, rfl, rfl, by omega, fun _ => by omega, fun h => by omega, fun h => by omega, by omega, fun j h1 h2 => by omega⟩
    case round =>
      obtain ⟨rfl, k, C, hk, rfl, rfl, hC, C0, C1, C2, C3, C4, hcont⟩ := hrel
      have HC := Lib.hid hC
      have HN := Lib.hid hcont
      clear hC hcont hb
      by_cases hlt : k + 1 < 4
      · have hx := byte_get s p (k + 1) (by omega)
        have hxl := byte_lt s p (k + 1)
        have q1 : (p : Int) + ((k + 1 : Nat) : Int) = ((p + (k + 1) : Nat) : Int) := by omega
        have q2 : p + (k + 1) < s.size := by omega
        by_cases c0 : 128 ≤ byteAt s p (k + 1) ∧ byteAt s p (k + 1) ≤ 191
        · obtain ⟨c1, c2⟩ := c0
          have HX := Lib.hid (show contB (byteAt s p) (k + 1 + 1) from fun j h1 h2 => by
            rcases Nat.lt_or_ge j (k + 1) with h | h
            · exact HN.out j h1 h
            · obtain rfl : j = k + 1 := by omega
              exact ⟨c1, c2⟩)
          obtain ⟨X, hX⟩ : ∃ X, X = byteAt s p (k + 1) := ⟨_, rfl⟩
          have HXE := Lib.hid hX
          rw [← hX] at hx hxl c1 c2
          clear hX
          go_wp2_with fail
          go_roundw
          case rel =>
            refine ⟨trivial, k + 1, _, by omega, by go_num, rfl, ?_, by omega, fun _ => by omega, fun _ => by omega, fun _ => by omega, by omega, HX.out⟩
            rw [accN, HC.out, HXE.out]
          case measure => simp [intOf]; omega
        · have SG := Lib.hid (show signAt s p = 0 by
            unfold signAt signN
            rw [if_neg (by omega), if_neg (by omega), if_neg (by omega), if_pos ⟨HB0.out, HB1.out⟩, if_neg]
            intro hh
            apply c0
            rcases (show k = 0 ∨ k = 1 ∨ k = 2 by omega) with rfl | rfl | rfl
            all_goals first | exact hh.2 | exact hh.2.1 | exact hh.2.2.1 | exact hh.2.2.2.1 | omega)
          by_cases c1 : byteAt s p (k + 1) < 128
          · clear c0
            go_wp2_with fail
            go_ret
            exact ⟨by rw [SG.out]; rfl, rfl⟩
          · have c2 : 191 < byteAt s p (k + 1) := by omega
            clear c0
            go_wp2_with fail
            go_ret
            exact ⟨by rw [SG.out]; rfl, rfl⟩
      · obtain rfl : k = 3 := by omega
        have hC2 : C = 64 * (64 * (64 * ((byteAt s p 0 : Int) - 240) + (byteAt s p 1 : Int) - 128) + (byteAt s p 2 : Int) - 128) + (byteAt s p 3 : Int) - 128 := HC.out
        have HC2 := Lib.hid hC2
        clear hC2 HC
        have HSG := Lib.hid (show signAt s p = if C < 65536 ∨ 1114111 < C ∨ (55296 ≤ C ∧ C ≤ 57343) then 0 else 4 by
          have k1 := HN.out 1 (by omega) (by omega)
          have k2 := HN.out 2 (by omega) (by omega)
          have k3 := HN.out 3 (by omega) (by omega)
          have hc := HC2.out
          have := HB0.out
          have := HB1.out
          unfold signAt signN
          rw [if_neg (by omega), if_neg (by omega), if_neg (by omega), if_pos ⟨HB0.out, HB1.out⟩]
          by_cases c : C < 65536 ∨ 1114111 < C ∨ (55296 ≤ C ∧ C ≤ 57343)
          · rw [if_pos c, if_neg (by omega)]
          · rw [if_neg c, if_pos (by omega)])
        by_cases d1 : C < 65536
        · have SG := Lib.hid (HSG.out.trans (if_pos (.inl d1)))
          have e1 := dec_lt d1
          go_wp2_with fail
          go_ret
          exact ⟨by rw [SG.out]; rfl, rfl⟩
        · by_cases d2 : 1114111 < C
          · have SG := Lib.hid (HSG.out.trans (if_pos (.inr (.inl d2))))
            have e1 := dec_nlt d1
            have e2 := dec_lt d2
            go_wp2_with fail
            go_ret
            exact ⟨by rw [SG.out]; rfl, rfl⟩
          · by_cases d3 : 55296 ≤ C
            · by_cases d4 : C ≤ 57343
              · have SG := Lib.hid (HSG.out.trans (if_pos (.inr (.inr ⟨d3, d4⟩))))
                have e1 := dec_nlt d1
                have e2 := dec_nlt d2
                go_wp2_with fail
                go_ret
                exact ⟨by rw [SG.out]; rfl, rfl⟩
              · have SG := Lib.hid (HSG.out.trans (if_neg (by omega)))
                have e1 := dec_nlt d1
                have e2 := dec_nlt d2
                have e3 := dec_lt (show 57343 < C by omega)
                go_wp2_with fail
                go_ret
                exact ⟨by rw [SG.out]; rfl, rfl⟩
            · have SG := Lib.hid (HSG.out.trans (if_neg (by omega)))
              have e1 := dec_nlt d1
              have e2 := dec_nlt d2
              have e3 := dec_lt (show C < 55296 by omega)
              go_wp2_with fail
              go_ret
              exact ⟨by rw [SG.out]; rfl, rfl⟩
  · have SG := Lib.hid (show signAt s p = 0 by
      unfold signAt signN
      rw [if_neg (by omega), if_neg (by omega), if_neg (by omega), if_pos ⟨l0, l1⟩, if_neg (by omega)])
    have hn' : (s.size : Int) - (p : Int) < 4 := by omega
    go_enter Tryd.func68, Tryd.ntmps68
    go_wp2_with fail
    go_ret
    exact ⟨by rw [SG.out]; rfl, rfl⟩
set_option maxHeartbeats 2000000 in
set_option maxRecDepth 100000 in
theorem sign_any (s : ByteArray) (p : Nat) (w : World) (hs : s.size ≤ 140737488351232) (hp : p < s.size) :
    Calls Tryd.prog 68 #[.string s, .int .i64 p] w fun e w' => e = .returned (.int .i64 (signAt s p)) ∧ w = w' := by
  by_cases a2 : 194 ≤ byteAt s p 0 ∧ byteAt s p 0 ≤ 223
  · exact sign_2 s p w hs hp a2.1 a2.2
  · by_cases a3 : 224 ≤ byteAt s p 0 ∧ byteAt s p 0 ≤ 239
    · exact sign_3 s p w hs hp a3.1 a3.2
    · by_cases a4 : 240 ≤ byteAt s p 0 ∧ byteAt s p 0 ≤ 244
      · exact sign_4 s p w hs hp a4.1 a4.2
      · have hb := byte_get s p 0 hp
        simp only [Nat.add_zero] at hb
        have hl := byte_lt s p 0
        by_cases c1 : byteAt s p 0 < 128
        · have SG := Lib.hid (show signAt s p = 1 by unfold signAt signN; rw [if_pos c1])
          clear a2 a3 a4
          go_enter Tryd.func68, Tryd.ntmps68
          go_wp2_with fail
          go_ret
          exact ⟨by rw [SG.out]; rfl, rfl⟩
        · have SG := Lib.hid (show signAt s p = 0 by unfold signAt signN; rw [if_neg c1, if_neg a2, if_neg a3, if_neg a4])
          rcases (show byteAt s p 0 < 194 ∨ 244 < byteAt s p 0 by omega) with h | h
          all_goals
            clear a2 a3 a4
            go_enter Tryd.func68, Tryd.ntmps68
            go_wp2_with fail
            go_ret
            exact ⟨by rw [SG.out]; rfl, rfl⟩
set_option maxHeartbeats 2000000 in
set_option maxRecDepth 100000 in
theorem utf_any (s : ByteArray) (w : World) (hs : s.size ≤ 140737488351232) :
    Calls Tryd.prog 47 #[.string s] w fun e w' => e = .returned (.bool (utfB s)) ∧ w = w' := by
  have HU := Lib.hid (show utfB s = utfFrom s 0 from rfl)
  go_enter Tryd.func47, Tryd.ntmps47
  go_wp2_with fail
  go_loopw [3, 4] (fun i _ wr => wr = w ∧ ∃ k : Nat, k ≤ s.size ∧ i = .int .i64 k ∧ utfB s = utfFrom s k) (fun i _ _ => s.size - (intOf i).toNat)
  case atStart => exact ⟨rfl, 0, by omega, rfl, HU.out⟩
  case round =>
    obtain ⟨rfl, k, hk, rfl, hu⟩ := hrel
    have HK := Lib.hid hu
    clear hu
    by_cases hlt : k < s.size
    · have ST := Lib.hid (utf_step s k hlt)
      have hle := signAt_le s k hlt
      have CS := Lib.hid (sign_any s k wr hs hlt)
      obtain ⟨n, hn⟩ : ∃ n, n = signAt s k := ⟨_, rfl⟩
      rw [← hn] at ST CS hle
      clear hn
      by_cases h0 : n = 0
      · have e := HK.out
        rw [ST.out, if_pos h0] at e
        have HE := Lib.hid e
        subst h0
        clear e
        go_wp2_with fail
        refine CS.out.mono ?_
        rintro e w2 ⟨rfl, rfl⟩
        go_wp2_with fail
        go_ret
        exact ⟨by rw [HE.out]; rfl, rfl⟩
      · have e := HK.out
        rw [ST.out, if_neg h0] at e
        have HE := Lib.hid e
        have h1 : ((n : Int) == 0) = false := by simp; omega
        clear e
        go_wp2_with fail
        refine CS.out.mono ?_
        rintro e w2 ⟨rfl, rfl⟩
        go_wp2_with fail
        go_roundw
        case rel => exact ⟨trivial, k + n, by omega, by go_num, HE.out⟩
        case measure => simp [intOf]; omega
    · obtain rfl : k = s.size := by omega
      have e := HK.out
      rw [utf_end] at e
      have HE := Lib.hid e
      clear e
      go_wp2_with fail
      go_ret
      exact ⟨by rw [HE.out]; rfl, rfl⟩
end Go.Proofs.YtpmhefdalhohdaaDoor
