/- hash's comparison of ranges: cmp.Compare, Cover's closure; slices.SortFunc laid at ranges. -/
import Derived.Test.YtihigingddaopaaDoorHCell
import Derived.Test.YtihigingddaopaaDoorShelf
namespace Go.Proofs.YtihigingddaopaaDoor
open Go.RowKit
set_option linter.unusedVariables false
set_option linter.unusedSimpArgs false

open Go.Shelf Go.Lib Go.Sort
theorem isNaN_any (a : Nat) (w : World) : Calls Tryd.prog 25 #[.int .u64 (a : Nat)] w fun e w' => e = .returned (.bool false) ∧ w' = w := by
  have h : (((a : Nat) : Int) != ((a : Nat) : Int)) = false := by simp
  go_enter Tryd.func25, Tryd.ntmps25
  go_wp2
  go_ret
  exact ⟨by first | rfl | (congr 2; simp), rfl⟩
def cfR (x y : Rg) : Int := if x.1 < y.1 then -1 else if y.1 < x.1 then 1 else 0
theorem compare_any (x y : Rg) (w : World) : Calls Tryd.prog 13 #[.int .u64 (x.1 : Nat), .int .u64 (y.1 : Nat)] w fun e w' => e = .returned (.int .i64 (cfR x y)) ∧ w' = w := by
  obtain ⟨a, a'⟩ := x
  obtain ⟨b, b'⟩ := y
  have K := Lib.hid fun n W => isNaN_any n W
  dsimp only
  rcases Nat.lt_trichotomy a b with h | h | h
  · have HE := Lib.hid (show cfR (a, a') (b, b') = -1 by unfold cfR; rw [if_pos h])
    have hi : (a : Int) < (b : Int) := by omega
    clear h
    go_enter Tryd.func13, Tryd.ntmps13
    go_wp2_with (go_at_call 25; refine (K.out _ _).mono ?_; rintro _ _ ⟨rfl, rfl⟩)
    go_ret
    exact ⟨by rw [HE.out]; rfl, rfl⟩
  · subst h
    have HE := Lib.hid (show cfR (a, a') (a, b') = 0 by unfold cfR; rw [if_neg (Nat.lt_irrefl a), if_neg (Nat.lt_irrefl a)])
    have hi : ¬ (a : Int) < (a : Int) := by omega
    go_enter Tryd.func13, Tryd.ntmps13
    go_wp2_with (go_at_call 25; refine (K.out _ _).mono ?_; rintro _ _ ⟨rfl, rfl⟩)
    go_ret
    exact ⟨by rw [HE.out]; rfl, rfl⟩
  · have HE := Lib.hid (show cfR (a, a') (b, b') = 1 by unfold cfR; dsimp only; rw [if_neg (by omega), if_pos h])
    have hi : ¬ (a : Int) < (b : Int) := by omega
    have hj : (b : Int) < (a : Int) := by omega
    clear h
    go_enter Tryd.func13, Tryd.ntmps13
    go_wp2_with (go_at_call 25; refine (K.out _ _).mono ?_; rintro _ _ ⟨rfl, rfl⟩)
    go_ret
    exact ⟨by rw [HE.out]; rfl, rfl⟩
def encC (x : Rg) : List Value := [.int .u64 (x.1 : Nat), .int .u64 (x.2 : Nat)]
theorem closure_any (x y : Rg) (W : World) : Calls Tryd.prog 12 #[.agg #[.int .u64 (x.1 : Nat), .int .u64 (x.2 : Nat)], .agg #[.int .u64 (y.1 : Nat), .int .u64 (y.2 : Nat)]] W fun e w' => e = .returned (.int .i64 (cfR x y)) ∧ ∃ q os', w' = grow (W.drewN q) os' := by
  have K := Lib.hid fun V => compare_any x y V
  go_enter Tryd.func12, Tryd.ntmps12
  go_wp2_with (go_at_call 13; refine (K.out _).mono ?_; rintro _ _ ⟨rfl, rfl⟩)
  go_ret
  exact ⟨rfl, 0, _, by rw [alloc_eq_grow, alloc_eq_grow, grow_grow]; rfl⟩
theorem ltR (x y : Rg) : ltOf cfR x y = decide (x.1 < y.1) := by
  unfold ltOf cfR
  by_cases h1 : x.1 < y.1
  · simp [h1]
  · by_cases h2 : y.1 < x.1 <;> simp [h1, h2]
theorem swoR : SWO (ltOf cfR) where
  irrefl x := by rw [ltR]; simp
  trans x y z h1 h2 := by rw [ltR] at *; simp at *; omega
  ntrans x y z h1 h2 := by rw [ltR] at *; simp at *; omega
theorem sort_any (blk off cap : Nat) (d : Array Rg) (w : World) (hH : HoldsK encC 2 w blk off d) (hblk : blk < w.heap.size) (hsz : d.size < 4611686018427387904) :
    Calls Tryd.prog 11 #[.slice (some ⟨blk, off, none⟩) d.size cap, .func (.func 12) #[] #[]] w fun e w' =>
      e = .returned (.tuple #[]) ∧ ∃ d' n os, PermIn 0 d.size d d' ∧ SortedIn (ltOf cfR) 0 d.size d' ∧ w' = sortWorldK encC 2 w blk off n d' os := by
  have eg : ∀ args w, (callFunc 12 args).run Tryd.prog w = .ok (.enter 12 args) w := enters_of Tryd.func12 (by kernel_rfl) rfl
  exact AnyQ.slices_SortFunc Tryd.sortRg 2 Tryd.isAgg30 Tryd.sizeOf30 encC (fun _ => rfl) (fun x v hv => by simp [encC] at hv; rcases hv with rfl | rfl <;> rfl) cfR swoR 12 #[] blk off cap d w eg (fun _ _ _ _ x y => closure_any x y _) hH hblk hsz
end Go.Proofs.YtihigingddaopaaDoor
