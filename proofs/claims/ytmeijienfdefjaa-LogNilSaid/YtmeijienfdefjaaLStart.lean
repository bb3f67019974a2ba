/- log.Start, Left, Dead. -/
import Derived.Test.YtmeijienfdefjaaLPlace
namespace Go.Proofs.Ytmeijienfdefjaa
open Go.RowKit
set_option linter.unusedVariables false

theorem heap_push (w : World) (o : Obj) : (w.alloc o).heap[w.heap.size]? = some o := by unfold World.alloc; simp
/-- The cells of a log. -/
def lgCells (p : Nat) (first count epoch next : Int) (dead : Bool) : Array Value := #[.pointer (some ⟨p, 0, none⟩), .int .i64 first, .int .i64 count, .int .i64 epoch, .int .i64 next, .bool dead]
theorem startNil_any (first count epoch : Int) (w : World) :
    Calls Try.prog 11 #[.pointer none, .int .i64 first, .int .i64 count, .int .i64 epoch] w fun e w' => e = .returned (.tuple #[.pointer none, .int .i64 1]) ∧ Below w.heap.size w w' := by
  have K := Lib.hid (placeNil_any first count w)
  go_enter Try.func11, Try.ntmps11
  go_wp2_with fail
  refine K.out.mono ?_
  rintro e W1 ⟨rfl, l1⟩
  have L1 := Lib.hid l1
  clear l1
  go_wp2_with fail
  exact bodyPost_ret (v := .tuple #[.pointer none, .int .i64 1]) (by simp [results, Try.results11, go_sem]) rfl ⟨rfl, L1.out.alloc L1.out.size _⟩
theorem left_any (b : Nat) (p : Nat) (first count epoch next : Int) (dead : Bool) (w : World) (h : w.heap[b]? = some (.cells (lgCells p first count epoch next dead) 85 (0, 0))) (c0 : 0 ≤ count) (c1 : count ≤ 1048576) (n0 : 0 ≤ next) (n1 : next ≤ 1048576) :
    Calls Try.prog 20 #[.pointer (some ⟨b, 0, none⟩)] w fun e w' => e = .returned (.int .i64 (count - next)) ∧ Below w.heap.size w w' := by
  have q2 : w.cell? ⟨b, 2, none⟩ = some (.int .i64 count) := by simp [World.cell?, h, lgCells]
  have q4 : w.cell? ⟨b, 4, none⟩ = some (.int .i64 next) := by simp [World.cell?, h, lgCells]
  have wr : IntKind.i64.wrap (count - next) = count - next := by rw [IntKind.wrap_i64]; omega
  clear h
  go_enter Try.func20, Try.ntmps20
  go_wp2
  go_quiet (fail)
  all_goals
    go_wp2_with fail
    go_ret
    exact ⟨rfl, below_drewN (Below.refl _ _) _⟩
theorem leftNil_any (w : World) : Calls Try.prog 20 #[.pointer none] w fun e w' => e = .returned (.int .i64 0) ∧ w = w' := by
  go_enter Try.func20, Try.ntmps20
  go_wp2
  go_ret
  exact ⟨rfl, rfl⟩
theorem dead_any (b : Nat) (p : Nat) (first count epoch next : Int) (dead : Bool) (w : World) (h : w.heap[b]? = some (.cells (lgCells p first count epoch next dead) 85 (0, 0))) :
    Calls Try.prog 21 #[.pointer (some ⟨b, 0, none⟩)] w fun e w' => e = .returned (.bool dead) ∧ w = w' := by
  have q5 : w.cell? ⟨b, 5, none⟩ = some (.bool dead) := by simp [World.cell?, h, lgCells]
  clear h
  go_enter Try.func21, Try.ntmps21
  go_wp2
  go_ret
  exact ⟨rfl, rfl⟩
theorem deadNil_any (w : World) : Calls Try.prog 21 #[.pointer none] w fun e w' => e = .returned (.bool false) ∧ w = w' := by
  go_enter Try.func21, Try.ntmps21
  go_wp2
  go_ret
  exact ⟨rfl, rfl⟩
theorem start_any [Spare] (first count epoch : Int) (w : World) (base : Nat) (M : DM) (S : DS) (h : Dsk w base M S) (f0 : -9223372036854775808 ≤ first) (f1 : first ≤ 9223372036854775807) (c1 : count ≤ 9223372036854775807) :
    Calls Try.prog 11 #[.pointer (some ⟨M.p, 0, none⟩), .int .i64 first, .int .i64 count, .int .i64 epoch] w fun e w' =>
      (plB S.N first count ∧ (1 ≤ epoch ∧ epoch ≤ 1099511627776) ∧ (∃ b, w.heap.size ≤ b ∧ e = .returned (.tuple #[.pointer (some ⟨b, 0, none⟩), .int .i64 0]) ∧ w'.heap[b]? = some (.cells (lgCells M.p first count epoch 0 false) 85 (0, 0))) ∨
        ¬ (plB S.N first count ∧ 1 ≤ epoch ∧ epoch ≤ 1099511627776) ∧ e = .returned (.tuple #[.pointer none, .int .i64 1])) ∧ Below w.heap.size w w' := by
  have K := Lib.hid (placeOf_any first count w base M S h f0 f1 c1)
  clear h
  go_enter Try.func11, Try.ntmps11
  go_wp2_with fail
  refine K.out.mono ?_
  rintro e W1 ⟨⟨yes, rfl⟩ | ⟨no, rfl⟩, l1⟩
  · have L1 := Lib.hid l1
    have Y := Lib.hid yes
    clear l1 yes
    go_wp2_with fail
    refine (isEpoch_any _ _).mono ?_
    rintro e w' ⟨rfl, rfl⟩
    by_cases hp : 1 ≤ epoch ∧ epoch ≤ 1099511627776
    · rw [show isEpochB epoch = true from decide_eq_true hp]
      have P := Lib.hid hp
      clear hp
      go_wp2_with fail
      have z1 := L1.out.size
      refine bodyPost_ret (v := .tuple #[.pointer (some ⟨W1.heap.size + 1, 0, none⟩), .int .i64 0]) (by simp [results, Try.results11, go_sem]) rfl ⟨.inl ⟨Y.out, P.out, W1.heap.size + 1, by omega, rfl, by rw [show W1.heap.size + 1 = (W1.alloc (.cells #[.pointer (some ⟨M.p, 0, none⟩), .int .i64 first, .int .i64 count] 80)).heap.size by simp]; exact heap_push _ _⟩, (L1.out.alloc L1.out.size _).alloc (by simp; omega) _⟩
    · rw [show isEpochB epoch = false from decide_eq_false hp]
      have P := Lib.hid hp
      clear hp
      go_wp2_with fail
      exact bodyPost_ret (v := .tuple #[.pointer none, .int .i64 1]) (by simp [results, Try.results11, go_sem]) rfl ⟨.inr ⟨fun k => P.out k.2, rfl⟩, L1.out.alloc L1.out.size _⟩
  · have L1 := Lib.hid l1
    have NO := Lib.hid no
    clear l1 no
    go_wp2_with fail
    exact bodyPost_ret (v := .tuple #[.pointer none, .int .i64 1]) (by simp [results, Try.results11, go_sem]) rfl ⟨.inr ⟨fun k => NO.out k.1, rfl⟩, L1.out.alloc L1.out.size _⟩
end Go.Proofs.Ytmeijienfdefjaa
