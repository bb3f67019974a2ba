/- the document's piece, more, bases, Stop: walks; what they come to. -/
import Derived.Test.YtoghdllppecblaaDoorQBytes
import Derived.Test.YtoghdllppecblaaDoorQStop
import Derived.LoopIn
namespace Go.Proofs.YtoghdllppecblaaDoor
open Go.RowKit Go.Shelf
set_option linter.unusedVariables false
set_option linter.unusedSimpArgs false

attribute [local go_sem] Oper.semAt_some
def pieceL : List UInt8 → Nat → List UInt8 → List UInt8
  | [], _, _ => []
  | b :: r, n, out => if b = 32 then (match n with | 0 => out | m + 1 => pieceL r m []) else pieceL r n (out ++ [b])
theorem pieceL_other {b : UInt8} (h : b ≠ 32) (r : List UInt8) (n : Nat) (o : List UInt8) : pieceL (b :: r) n o = pieceL r n (o ++ [b]) := by
  cases n <;> simp [pieceL, h]
def moreL : List UInt8 := [97, 32, 97, 32, 97, 32, 97, 32, 97, 32, 97, 32, 99, 32, 99, 32, 99, 32, 99, 32, 99, 32, 99, 32, 99, 32, 99, 32, 100, 32, 100, 32, 100, 32, 100, 32, 101, 32, 101, 32, 101, 32, 101, 32, 101, 32, 101, 32, 101, 32, 101, 32, 101, 32, 101, 32, 103, 32, 103, 32, 103, 32, 103, 32, 103, 32, 103, 32, 103, 32, 103, 32, 104, 32, 104, 32, 104, 32, 104, 32, 105, 32, 105, 32, 105, 32, 105, 32, 105, 32, 105, 32, 105, 32, 105, 32, 105, 32, 105, 32, 105, 106, 32, 105, 106, 32, 106, 32, 106, 32, 107, 32, 107, 32, 107, 32, 108, 32, 108, 32, 108, 32, 108, 32, 108, 32, 108, 32, 108, 32, 108, 32, 108, 32, 108, 32, 110, 32, 110, 32, 110, 32, 110, 32, 110, 32, 110, 32, 110, 32, 110, 103, 32, 110, 103, 32, 111, 32, 111, 32, 111, 32, 111, 32, 111, 32, 111, 32, 111, 101, 32, 111, 101, 32, 114, 32, 114, 32, 114, 32, 114, 32, 114, 32, 114, 32, 115, 32, 115, 32, 115, 32, 115, 32, 115, 32, 115, 32, 115, 32, 115, 32, 116, 32, 116, 32, 116, 32, 116, 32, 116, 32, 116, 32, 117, 32, 117, 32, 117, 32, 117, 32, 117, 32, 117, 32, 117, 32, 117, 32, 117, 32, 117, 32, 117, 32, 117, 32, 119, 32, 119, 32, 121, 32, 121, 32, 121, 32, 122, 32, 122, 32, 122, 32, 122, 32, 122, 32, 122, 32, 115, 32]
def basesL : List UInt8 := [97, 32, 97, 32, 97, 32, 97, 32, 97, 32, 97, 32, 97, 101, 32, 99, 32, 101, 32, 101, 32, 101, 32, 101, 32, 105, 32, 105, 32, 105, 32, 105, 32, 100, 32, 110, 32, 111, 32, 111, 32, 111, 32, 111, 32, 111, 32, 45, 32, 111, 32, 117, 32, 117, 32, 117, 32, 117, 32, 121, 32, 116, 104, 32, 115, 115, 32]
def stopsL : List UInt8 := [97, 32, 97, 110, 32, 97, 110, 100, 32, 97, 114, 101, 32, 97, 115, 32, 97, 116, 32, 98, 101, 32, 98, 117, 116, 32, 98, 121, 32, 102, 111, 114, 32, 105, 102, 32, 105, 110, 32, 105, 110, 116, 111, 32, 105, 115, 32, 105, 116, 32, 110, 111, 32, 110, 111, 116, 32, 111, 102, 32, 111, 110, 32, 111, 114, 32, 115, 117, 99, 104, 32, 116, 104, 97, 116, 32, 116, 104, 101, 32, 116, 104, 101, 105, 114, 32, 116, 104, 101, 110, 32, 116, 104, 101, 114, 101, 32, 116, 104, 101, 115, 101, 32, 116, 104, 101, 121, 32, 116, 104, 105, 115, 32, 116, 111, 32, 119, 97, 115, 32, 119, 105, 108, 108, 32, 119, 105, 116, 104, 32]
set_option maxRecDepth 100000 in
theorem more_any (w : World) : Calls Tryd.prog 21 #[] w fun e w' => e = .returned (.string (mkB moreL)) ∧ w' = w := by
  go_enter Tryd.func21, Tryd.ntmps21
  go_wp2
  go_ret
  exact ⟨rfl, rfl⟩
set_option maxRecDepth 100000 in
theorem bases_any (w : World) : Calls Tryd.prog 22 #[] w fun e w' => e = .returned (.string (mkB basesL)) ∧ w' = w := by
  go_enter Tryd.func22, Tryd.ntmps22
  go_wp2
  go_ret
  exact ⟨rfl, rfl⟩
theorem str_index (s : List UInt8) (w : World) (k : Nat) (b : UInt8) (h : s[k]? = some b) : (Instr.index 9 (.string (mkB s)) (.int .i64 (k : Int))).run Tryd.prog w = .ok (.int .u8 ((b.toNat : Nat) : Int)) w := by
  obtain ⟨hk, he⟩ := List.getElem?_eq_some_iff.1 h
  rw [run_index_string w 9 (mkB s) .i64 (k : Int) Tryd.underlying9]
  have hs : (0 : Int) ≤ (k : Int) ∧ (k : Int) < (mkB s).size := ⟨by omega, by rw [mkB_size]; omega⟩
  rw [dif_pos hs]
  have e2 : (mkB s)[(k : Int).toNat]'(by have := hs.2; omega) = b := by
    show (mkB s).data[(k : Int).toNat]'_ = b
    simp [mkB, he]
  rw [e2]
theorem str_one (s : List UInt8) (k : Nat) (b : UInt8) (h : s[k]? = some b) : (mkB s).extract k (k + 1) = mkB [b] := by
  obtain ⟨hk, he⟩ := List.getElem?_eq_some_iff.1 h
  apply ByteArray.ext
  rw [ByteArray.data_extract]
  unfold mkB
  apply Array.ext'
  simp [Array.toList_extract, List.extract]
  rw [List.drop_eq_getElem_cons hk]
  simp [he]
set_option maxRecDepth 100000 in
set_option maxHeartbeats 4000000 in
theorem piece_any (s : List UInt8) (hs : s.length ≤ 100000) (n : Nat) (hn : n ≤ 100000) (w : World) : Calls Tryd.prog 20 #[.string (mkB s), .int .i64 (n : Int)] w fun e w' => e = .returned (.string (mkB (pieceL s n []))) ∧ w' = w := by
  have HIx := Lib.hid (str_index s)
  have HOne := Lib.hid (str_one s)
  have hsz : (mkB s).size = s.length := mkB_size s
  obtain ⟨S, hS⟩ : ∃ S, S = mkB s := ⟨_, rfl⟩
  rw [← hS] at HIx HOne hsz ⊢
  have HSz := Lib.hid hsz
  clear hS hsz
  refine (callsIn_wide (n := 5)).1 ?_
  refine callsIn_of_wp Tryd.func20 rfl trivial ?_ rfl
  simp only [Tryd.ntmps20, List.size_toArray, List.length_cons, List.length_nil, Nat.reduceAdd, Nat.reduceSub, Array.replicate_succ, Array.replicate_zero, List.push_toArray, List.append_toArray, List.nil_append, List.cons_append]
  gi_wp2
  gi_loopw [1, 5, 6] (fun nn out i wr => (∃ (k m : Nat) (o : List UInt8), k ≤ s.length ∧ nn = .int .i64 (m : Int) ∧ out = .string (mkB o) ∧ i = .int .i64 (k : Int) ∧ pieceL (s.drop k) m o = pieceL s n [] ∧ o.length ≤ k ∧ m ≤ n) ∧ wr = w) (fun _ _ i _ => s.length - (intOf i).toNat)
  case atStart => exact ⟨⟨0, n, [], by omega, rfl, rfl, rfl, rfl, by simp, Nat.le_refl _⟩, rfl⟩
  case round =>
    obtain ⟨⟨k, m, o, hk, rfl, rfl, rfl, hp, ho, hm⟩, rfl⟩ := hrel
    have HP := Lib.hid hp
    have hsz := HSz.out
    clear hp
    by_cases hlt : k < s.length
    · obtain ⟨b, hb⟩ : ∃ b, s[k]? = some b := ⟨_, List.getElem?_eq_getElem hlt⟩
      have hix := HIx.out wr k b hb
      have hone := HOne.out k b hb
      have hd : s.drop k = b :: s.drop (k + 1) := by
        obtain ⟨h1, h2⟩ := List.getElem?_eq_some_iff.1 hb
        rw [List.drop_eq_getElem_cons h1, h2]
      have hkS : (k : Int) < (S.size : Int) := by omega
      have hkw : IntKind.i64.wrap ((k : Int) + 1) = (k : Int) + 1 := IntWalk.i64_in _ (by omega)
      have hk1 : (k : Int) + 1 ≤ (S.size : Int) := by omega
      by_cases h32 : b = 32
      · subst h32
        have hix2 : (Instr.index 9 (.string S) (.int .i64 (k : Int))).run Tryd.prog wr = .ok (.int .u8 32) wr := hix
        cases m with
        | zero =>
          have HE := Lib.hid (show pieceL s n [] = o by rw [← HP.out, hd]; rfl)
          clear hix hd hone hb hsz
          gi_wp2_with (refine opIn_index _ _ _ rfl _ hix2 ?_)
          go_ret
          exact ⟨by rw [HE.out]; rfl, rfl⟩
        | succ m =>
          have HE := Lib.hid (show pieceL (s.drop (k + 1)) m [] = pieceL s n [] by rw [← HP.out, hd]; rfl)
          have hmw : IntKind.i64.wrap (((m + 1 : Nat) : Int) - 1) = (m : Int) := by rw [IntWalk.i64_in _ (by omega)]; omega
          have hmw2 : IntKind.i64.wrap ((m : Int) + 1 - 1) = (m : Int) := by rw [IntWalk.i64_in _ (by omega)]; omega
          have hm0 : ¬ (m : Int) + 1 = 0 := by omega
          clear hix hd hone hb hsz
          gi_wp2_with (refine opIn_index _ _ _ rfl _ hix2 ?_)
          exact ⟨⟨⟨k + 1, m, [], by omega, rfl, rfl, by first | rfl | simp, HE.out, by simp, by omega⟩, (by simp)⟩, by simp [intOf]; omega⟩
      · have HE := Lib.hid (show pieceL (s.drop (k + 1)) m (o ++ [b]) = pieceL s n [] by rw [← HP.out, hd, pieceL_other h32])
        have hbn : ¬ ((b.toNat : Nat) : Int) = 32 := by
          intro e
          apply h32
          have : b.toNat = 32 := by omega
          exact UInt8.toNat_inj.1 this
        obtain ⟨z, hz⟩ : ∃ z : Int, z = ((b.toNat : Nat) : Int) := ⟨_, rfl⟩
        rw [← hz] at hix hbn
        have hz1 : (mkB o).size = o.length := mkB_size o
        have hca : ¬ 9223372036854775807 < (mkB o).size + (mkB [b]).size := by rw [mkB_size, mkB_size]; simp; omega
        obtain ⟨B, hB⟩ : ∃ B, B = mkB o := ⟨_, rfl⟩
        obtain ⟨B1, hB1⟩ : ∃ B1, B1 = mkB [b] := ⟨_, rfl⟩
        have HC := Lib.hid (show B ++ B1 = mkB (o ++ [b]) by rw [hB, hB1, mkB_app])
        rw [← hB1] at hone hca
        rw [← hB] at hca ⊢
        clear hd hb hsz hz hz1 hB hB1
        gi_wp2_with (refine opIn_index _ _ _ rfl _ hix ?_)
        exact ⟨⟨⟨k + 1, m, o ++ [b], by omega, rfl, by rw [HC.out], by first | rfl | simp, HE.out, by simp; omega, hm⟩, (by simp)⟩, by simp [intOf]; omega⟩
    · obtain rfl : k = s.length := by omega
      have HE := Lib.hid (show pieceL s n [] = [] by rw [← HP.out, List.drop_length]; rfl)
      have hkS : ¬ (s.length : Int) < (S.size : Int) := by omega
      clear hsz
      gi_wp2
      go_ret
      exact ⟨by rw [HE.out]; rfl, rfl⟩
end Go.Proofs.YtoghdllppecblaaDoor
