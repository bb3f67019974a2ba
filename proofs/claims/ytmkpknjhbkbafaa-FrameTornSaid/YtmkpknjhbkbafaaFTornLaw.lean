/- FrameTorn, whatever the arguments. -/
import Derived.Test.YtmkpknjhbkbafaaFTorn
namespace Go.Proofs.Ytmkpknjhbkbafaa
open Go.RowKit

set_option maxRecDepth 100000 in
set_option maxHeartbeats 1000000 in
theorem frameTorn_size (size : Int) (zero : Bool) (mk : Nat → Int) (Aw : Nat → Option Addr) (nn cc : Nat → Nat) (ct : Nat → Int) (w : World) (h : size < 64 ∨ 4096 < size) :
    Calls Try.prog 6 #[.int .i64 size, .bool zero, .agg (boxCells mk Aw nn cc ct)] w fun e w' => e = .returned (.bool true) ∧ Below w.heap.size w w' := by
  unfold boxCells
  by_cases h1 : size < 64
  · clear h
    go_enter Try.func6, Try.ntmps6
    go_wp2
    go_ret
    exact ⟨rfl, (Below.refl _ _).alloc (Nat.le_refl _) _⟩
  · have h2 : 4096 < size := by omega
    clear h
    go_enter Try.func6, Try.ntmps6
    go_wp2
    go_ret
    exact ⟨rfl, (Below.refl _ _).alloc (Nat.le_refl _) _⟩

set_option maxRecDepth 100000 in
set_option maxHeartbeats 1000000 in
theorem frameTorn_alike (size : Int) (zero : Bool) (mk : Nat → Int) (Aw : Nat → Option Addr) (nn cc : Nat → Nat) (ct : Nat → Int) (w : World) (h1 : 64 ≤ size) (h2 : size ≤ 4096) (h : mk 0 = mk 1 ∨ mk 0 = mk 2 ∨ mk 1 = mk 2) :
    Calls Try.prog 6 #[.int .i64 size, .bool zero, .agg (boxCells mk Aw nn cc ct)] w fun e w' => e = .returned (.bool true) ∧ Below w.heap.size w w' := by
  unfold boxCells
  by_cases e01 : mk 0 = mk 1
  · have q01 : (mk 0 == mk 1) = true := by simpa using e01
    clear h e01
    go_enter Try.func6, Try.ntmps6
    go_wp2
    go_ret
    exact ⟨rfl, (Below.refl _ _).alloc (Nat.le_refl _) _⟩
  · have q01 : (mk 0 == mk 1) = false := by simpa using e01
    by_cases e02 : mk 0 = mk 2
    · have q02 : (mk 0 == mk 2) = true := by simpa using e02
      clear h e01 e02
      go_enter Try.func6, Try.ntmps6
      go_wp2
      go_ret
      exact ⟨rfl, (Below.refl _ _).alloc (Nat.le_refl _) _⟩
    · have q02 : (mk 0 == mk 2) = false := by simpa using e02
      have q12 : (mk 1 == mk 2) = true := by simpa using (h.resolve_left e01).resolve_left e02
      clear h e01 e02
      go_enter Try.func6, Try.ntmps6
      go_wp2
      go_ret
      exact ⟨rfl, (Below.refl _ _).alloc (Nat.le_refl _) _⟩

theorem frameTorn_walk (size : Int) (zero : Bool) (mk : Nat → Int) (Aw : Nat → Option Addr) (nn cc : Nat → Nat) (ct : Nat → Int) (F : Nat → Nat → Nat) (w : World) (hmk : ∀ r, r < 3 → mk r ≤ 9223372036854775807)
    (hb : ∀ k, k < 3 → Bytes w (Aw k) (nn k) (F k)) :
    Calls Try.prog 6 #[.int .i64 size, .bool zero, .agg (boxCells mk Aw nn cc ct)] w fun e w' => e = .returned (.bool true) ∧ Below w.heap.size w w' := by
  by_cases hs : size < 64 ∨ 4096 < size
  · exact frameTorn_size size zero mk Aw nn cc ct w hs
  · by_cases hq : mk 0 = mk 1 ∨ mk 0 = mk 2 ∨ mk 1 = mk 2
    · exact frameTorn_alike size zero mk Aw nn cc ct w (by omega) (by omega) hq
    · obtain ⟨s, rfl⟩ := Int.eq_ofNat_of_zero_le (show 0 ≤ size by omega)
      refine frameTorn_main s (s - 20) zero mk Aw nn cc ct F w (by omega) (by omega) (by omega) (by omega) hb ?_ (fun e => hq (.inl e)) (fun e => hq (.inr (.inl e))) (fun e => hq (.inr (.inr e)))
      exact Lib.hid fun r hr _ i _ => secF_lt (by have := hmk r hr; omega) (fun j hj => (hb r hr).2.1 j hj) i
end Go.Proofs.Ytmkpknjhbkbafaa
