/- log.Room, log.placeOf. -/
import Derived.Test.YtmeijienfdefjaaLChange
import Derived.Test.YtmeijienfdefjaaDLeaf
namespace Go.Proofs.Ytmeijienfdefjaa
open Go.RowKit
set_option linter.unusedVariables false

theorem lroom_any (n : Int) (w : World) (h0 : -9223372036854775808 ≤ n) (h1 : n ≤ 9223372036854775807) :
    Calls Try.prog 24 #[.int .i64 n] w fun e w' => e = .returned (.int .i64 (roomI n - 9)) ∧ w = w' := by
  have rr : 0 ≤ roomI n ∧ roomI n ≤ 4060 := by unfold roomI; split <;> omega
  obtain ⟨r0, r1⟩ := rr
  go_enter Try.func24, Try.ntmps24
  go_wp2_with (go_at_call 47; refine (room_any _ _ h0 h1).mono ?_; rintro e w' ⟨rfl, rfl⟩)
  go_ret
  exact ⟨rfl, rfl⟩
/-- May a log stand there, on N sectors? -/
def plB (N first count : Int) : Prop := 0 ≤ first ∧ 1 ≤ count ∧ count ≤ 1048576 ∧ count ≤ N - first
theorem placeNil_any (first count : Int) (w : World) :
    Calls Try.prog 34 #[.pointer none, .int .i64 first, .int .i64 count] w fun e w' => e = .returned (.tuple #[.agg #[.pointer none, .int .i64 0, .int .i64 0], .int .i64 1]) ∧ Below w.heap.size w w' := by
  go_enter Try.func34, Try.ntmps34
  go_wp2
  exact bodyPost_ret (v := .tuple #[.agg #[.pointer none, .int .i64 0, .int .i64 0], .int .i64 1]) (by simp [results, Try.results34, go_sem]) rfl ⟨rfl, (Below.refl _ _).alloc (Nat.le_refl _) _⟩
theorem placeOf_any [Spare] (first count : Int) (w : World) (base : Nat) (M : DM) (S : DS) (h : Dsk w base M S) (f0 : -9223372036854775808 ≤ first) (f1 : first ≤ 9223372036854775807) (c1 : count ≤ 9223372036854775807) :
    Calls Try.prog 34 #[.pointer (some ⟨M.p, 0, none⟩), .int .i64 first, .int .i64 count] w fun e w' =>
      (plB S.N first count ∧ e = .returned (.tuple #[.agg #[.pointer (some ⟨M.p, 0, none⟩), .int .i64 first, .int .i64 count], .int .i64 0]) ∨ ¬ plB S.N first count ∧ e = .returned (.tuple #[.agg #[.pointer none, .int .i64 0, .int .i64 0], .int .i64 1])) ∧ Below w.heap.size w w' := by
  have hN := h.hN.2
  have K := Lib.hid (fun (W : World) (l : Below w.heap.size w W) => sectors_any W base M S (h.below l))
  clear h
  by_cases a0 : first < 0
  · have NO := Lib.hid (show ¬ plB S.N first count from fun k => by have := k.1; omega)
    go_enter Try.func34, Try.ntmps34
    go_wp2
    exact bodyPost_ret (v := .tuple #[.agg #[.pointer none, .int .i64 0, .int .i64 0], .int .i64 1]) (by simp [results, Try.results34, go_sem]) rfl ⟨.inr ⟨NO.out, rfl⟩, (Below.refl _ _).alloc (Nat.le_refl _) _⟩
  by_cases a1 : count < 1
  · have NO := Lib.hid (show ¬ plB S.N first count from fun k => by have := k.2.1; omega)
    go_enter Try.func34, Try.ntmps34
    go_wp2
    exact bodyPost_ret (v := .tuple #[.agg #[.pointer none, .int .i64 0, .int .i64 0], .int .i64 1]) (by simp [results, Try.results34, go_sem]) rfl ⟨.inr ⟨NO.out, rfl⟩, (Below.refl _ _).alloc (Nat.le_refl _) _⟩
  by_cases a2 : 1048576 < count
  · have NO := Lib.hid (show ¬ plB S.N first count from fun k => by have := k.2.2.1; omega)
    go_enter Try.func34, Try.ntmps34
    go_wp2
    exact bodyPost_ret (v := .tuple #[.agg #[.pointer none, .int .i64 0, .int .i64 0], .int .i64 1]) (by simp [results, Try.results34, go_sem]) rfl ⟨.inr ⟨NO.out, rfl⟩, (Below.refl _ _).alloc (Nat.le_refl _) _⟩
  obtain ⟨D, hD⟩ : ∃ D : Int, D = (S.N : Int) - first := ⟨_, rfl⟩
  have w0 : IntKind.i64.wrap ((S.N : Int) - first) = D := by rw [IntKind.wrap_i64]; omega
  by_cases a3 : D < count
  · have NO := Lib.hid (show ¬ plB S.N first count from fun k => by have := k.2.2.2; omega)
    clear hD
    go_enter Try.func34, Try.ntmps34
    go_wp2_with (go_at_call 56; refine (K.out _ ((Below.refl _ _).alloc (Nat.le_refl _) _)).mono ?_; rintro e w' ⟨rfl, rfl⟩)
    exact bodyPost_ret (v := .tuple #[.agg #[.pointer none, .int .i64 0, .int .i64 0], .int .i64 1]) (by simp [results, Try.results34, go_sem]) rfl ⟨.inr ⟨NO.out, rfl⟩, (Below.refl _ _).alloc (Nat.le_refl _) _⟩
  · have YES := Lib.hid (show plB S.N first count from ⟨by omega, by omega, by omega, by omega⟩)
    clear hD
    go_enter Try.func34, Try.ntmps34
    go_wp2_with (go_at_call 56; refine (K.out _ ((Below.refl _ _).alloc (Nat.le_refl _) _)).mono ?_; rintro e w' ⟨rfl, rfl⟩)
    exact bodyPost_ret (v := .tuple #[.agg #[.pointer (some ⟨M.p, 0, none⟩), .int .i64 first, .int .i64 count], .int .i64 0]) (by simp [results, Try.results34, go_sem]) rfl ⟨.inl ⟨YES.out, rfl⟩, (Below.refl _ _).alloc (Nat.le_refl _) _⟩
end Go.Proofs.Ytmeijienfdefjaa
