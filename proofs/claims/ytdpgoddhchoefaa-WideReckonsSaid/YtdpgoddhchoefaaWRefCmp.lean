/- The document's Compare: the walk. -/
import Derived.Test.YtdpgoddhchoefaaWRefSign
import Derived.BigQuiet
import Derived.Deep.QuietTactic
import Derived.Deep.RegionHeld3
namespace Go.Proofs.Ytdpgoddhchoefaa
open Go.RowKit
set_option linter.unusedVariables false

def SameS (x y : Int) : Prop := (svW x < 0 ∧ svW y < 0) ∨ (¬ svW x < 0 ∧ ¬ svW y < 0)
theorem un_cmp_lt {x y : Int} (hs : SameS x y) (h : unW x < unW y) : cmpI (svW x) (svW y) = -1 := by
  unfold SameS at hs
  apply cmpI_lt
  have a := sv_un x
  have b := sv_un y
  omega
theorem un_cmp_gt {x y : Int} (hs : SameS x y) (h : unW y < unW x) : cmpI (svW x) (svW y) = 1 := by
  unfold SameS at hs
  apply cmpI_gt
  have a := sv_un x
  have b := sv_un y
  omega
theorem un_cmp_eq {x y : Int} (hs : SameS x y) (h : unW x = unW y) : cmpI (svW x) (svW y) = 0 := by
  unfold SameS at hs
  apply cmpI_eq
  have a := sv_un x
  have b := sv_un y
  omega
theorem two_s {w W : World} {x y : Int} (l : Below (w.heap.size + 1 + 1) ((w.alloc (.cells #[.int .i64 (rowF x 0), .int .i64 (rowF x 1), .int .i64 (rowF x 2), .int .i64 (rowF x 3), .int .i64 (rowF x 4), .int .i64 (rowF x 5), .int .i64 (rowF x 6), .int .i64 (rowF x 7)] 26)).alloc (.cells #[.int .i64 (rowF y 0), .int .i64 (rowF y 1), .int .i64 (rowF y 2), .int .i64 (rowF y 3), .int .i64 (rowF y 4), .int .i64 (rowF y 5), .int .i64 (rowF y 6), .int .i64 (rowF y 7)] 26)) W) : Below (w.heap.size + 1 + 1) ((w.alloc (.cells #[.int .i64 (rowF x 0), .int .i64 (rowF x 1), .int .i64 (rowF x 2), .int .i64 (rowF x 3), .int .i64 (rowF x 4), .int .i64 (rowF x 5), .int .i64 (rowF x 6), .int .i64 (rowF x 7)] 26)).alloc (.cells #[.int .i64 (rowF y 0), .int .i64 (rowF y 1), .int .i64 (rowF y 2), .int .i64 (rowF y 3), .int .i64 (rowF y 4), .int .i64 (rowF y 5), .int .i64 (rowF y 6), .int .i64 (rowF y 7)] 26)) W ∧ W.cell? ⟨w.heap.size, 0, none⟩ = some (.int .i64 (rowF x 0)) ∧ W.cell? ⟨w.heap.size, 1, none⟩ = some (.int .i64 (rowF x 1)) ∧ W.cell? ⟨w.heap.size, 2, none⟩ = some (.int .i64 (rowF x 2)) ∧ W.cell? ⟨w.heap.size, 3, none⟩ = some (.int .i64 (rowF x 3)) ∧ W.cell? ⟨w.heap.size, 4, none⟩ = some (.int .i64 (rowF x 4)) ∧ W.cell? ⟨w.heap.size, 5, none⟩ = some (.int .i64 (rowF x 5)) ∧ W.cell? ⟨w.heap.size, 6, none⟩ = some (.int .i64 (rowF x 6)) ∧ W.cell? ⟨w.heap.size, 7, none⟩ = some (.int .i64 (rowF x 7)) ∧ W.cell? ⟨w.heap.size + 1, 0, none⟩ = some (.int .i64 (rowF y 0)) ∧ W.cell? ⟨w.heap.size + 1, 1, none⟩ = some (.int .i64 (rowF y 1)) ∧ W.cell? ⟨w.heap.size + 1, 2, none⟩ = some (.int .i64 (rowF y 2)) ∧ W.cell? ⟨w.heap.size + 1, 3, none⟩ = some (.int .i64 (rowF y 3)) ∧ W.cell? ⟨w.heap.size + 1, 4, none⟩ = some (.int .i64 (rowF y 4)) ∧ W.cell? ⟨w.heap.size + 1, 5, none⟩ = some (.int .i64 (rowF y 5)) ∧ W.cell? ⟨w.heap.size + 1, 6, none⟩ = some (.int .i64 (rowF y 6)) ∧ W.cell? ⟨w.heap.size + 1, 7, none⟩ = some (.int .i64 (rowF y 7)) := by
  have hx0 := arrI_box w 26 (rowF x)
  have hy0 := arrI_box (w.alloc (.cells #[.int .i64 (rowF x 0), .int .i64 (rowF x 1), .int .i64 (rowF x 2), .int .i64 (rowF x 3), .int .i64 (rowF x 4), .int .i64 (rowF x 5), .int .i64 (rowF x 6), .int .i64 (rowF x 7)] 26)) 26 (rowF y)
  rw [World.size_alloc] at hy0
  have hx1 := (ArrI.keep (ArrI.keep hx0 ((Below.refl _ _).alloc (Nat.le_refl _) (.cells #[.int .i64 (rowF y 0), .int .i64 (rowF y 1), .int .i64 (rowF y 2), .int .i64 (rowF y 3), .int .i64 (rowF y 4), .int .i64 (rowF y 5), .int .i64 (rowF y 6), .int .i64 (rowF y 7)] 26)) (by simp)) l (by omega)).cells (G := rowF x) fun _ _ => rfl
  have hy1 := (ArrI.keep hy0 l (by omega)).cells (G := rowF y) fun _ _ => rfl
  obtain ⟨a0, a1, a2, a3, a4, a5, a6, a7⟩ := hx1
  exact ⟨l, a0, a1, a2, a3, a4, a5, a6, a7, hy1⟩
theorem two_keep {w W w' : World} {x y : Int} (l : Below W.heap.size W w') (h : Below (w.heap.size + 1 + 1) ((w.alloc (.cells #[.int .i64 (rowF x 0), .int .i64 (rowF x 1), .int .i64 (rowF x 2), .int .i64 (rowF x 3), .int .i64 (rowF x 4), .int .i64 (rowF x 5), .int .i64 (rowF x 6), .int .i64 (rowF x 7)] 26)).alloc (.cells #[.int .i64 (rowF y 0), .int .i64 (rowF y 1), .int .i64 (rowF y 2), .int .i64 (rowF y 3), .int .i64 (rowF y 4), .int .i64 (rowF y 5), .int .i64 (rowF y 6), .int .i64 (rowF y 7)] 26)) W ∧ W.cell? ⟨w.heap.size, 0, none⟩ = some (.int .i64 (rowF x 0)) ∧ W.cell? ⟨w.heap.size, 1, none⟩ = some (.int .i64 (rowF x 1)) ∧ W.cell? ⟨w.heap.size, 2, none⟩ = some (.int .i64 (rowF x 2)) ∧ W.cell? ⟨w.heap.size, 3, none⟩ = some (.int .i64 (rowF x 3)) ∧ W.cell? ⟨w.heap.size, 4, none⟩ = some (.int .i64 (rowF x 4)) ∧ W.cell? ⟨w.heap.size, 5, none⟩ = some (.int .i64 (rowF x 5)) ∧ W.cell? ⟨w.heap.size, 6, none⟩ = some (.int .i64 (rowF x 6)) ∧ W.cell? ⟨w.heap.size, 7, none⟩ = some (.int .i64 (rowF x 7)) ∧ W.cell? ⟨w.heap.size + 1, 0, none⟩ = some (.int .i64 (rowF y 0)) ∧ W.cell? ⟨w.heap.size + 1, 1, none⟩ = some (.int .i64 (rowF y 1)) ∧ W.cell? ⟨w.heap.size + 1, 2, none⟩ = some (.int .i64 (rowF y 2)) ∧ W.cell? ⟨w.heap.size + 1, 3, none⟩ = some (.int .i64 (rowF y 3)) ∧ W.cell? ⟨w.heap.size + 1, 4, none⟩ = some (.int .i64 (rowF y 4)) ∧ W.cell? ⟨w.heap.size + 1, 5, none⟩ = some (.int .i64 (rowF y 5)) ∧ W.cell? ⟨w.heap.size + 1, 6, none⟩ = some (.int .i64 (rowF y 6)) ∧ W.cell? ⟨w.heap.size + 1, 7, none⟩ = some (.int .i64 (rowF y 7))) : Below (w.heap.size + 1 + 1) ((w.alloc (.cells #[.int .i64 (rowF x 0), .int .i64 (rowF x 1), .int .i64 (rowF x 2), .int .i64 (rowF x 3), .int .i64 (rowF x 4), .int .i64 (rowF x 5), .int .i64 (rowF x 6), .int .i64 (rowF x 7)] 26)).alloc (.cells #[.int .i64 (rowF y 0), .int .i64 (rowF y 1), .int .i64 (rowF y 2), .int .i64 (rowF y 3), .int .i64 (rowF y 4), .int .i64 (rowF y 5), .int .i64 (rowF y 6), .int .i64 (rowF y 7)] 26)) w' ∧ w'.cell? ⟨w.heap.size, 0, none⟩ = some (.int .i64 (rowF x 0)) ∧ w'.cell? ⟨w.heap.size, 1, none⟩ = some (.int .i64 (rowF x 1)) ∧ w'.cell? ⟨w.heap.size, 2, none⟩ = some (.int .i64 (rowF x 2)) ∧ w'.cell? ⟨w.heap.size, 3, none⟩ = some (.int .i64 (rowF x 3)) ∧ w'.cell? ⟨w.heap.size, 4, none⟩ = some (.int .i64 (rowF x 4)) ∧ w'.cell? ⟨w.heap.size, 5, none⟩ = some (.int .i64 (rowF x 5)) ∧ w'.cell? ⟨w.heap.size, 6, none⟩ = some (.int .i64 (rowF x 6)) ∧ w'.cell? ⟨w.heap.size, 7, none⟩ = some (.int .i64 (rowF x 7)) ∧ w'.cell? ⟨w.heap.size + 1, 0, none⟩ = some (.int .i64 (rowF y 0)) ∧ w'.cell? ⟨w.heap.size + 1, 1, none⟩ = some (.int .i64 (rowF y 1)) ∧ w'.cell? ⟨w.heap.size + 1, 2, none⟩ = some (.int .i64 (rowF y 2)) ∧ w'.cell? ⟨w.heap.size + 1, 3, none⟩ = some (.int .i64 (rowF y 3)) ∧ w'.cell? ⟨w.heap.size + 1, 4, none⟩ = some (.int .i64 (rowF y 4)) ∧ w'.cell? ⟨w.heap.size + 1, 5, none⟩ = some (.int .i64 (rowF y 5)) ∧ w'.cell? ⟨w.heap.size + 1, 6, none⟩ = some (.int .i64 (rowF y 6)) ∧ w'.cell? ⟨w.heap.size + 1, 7, none⟩ = some (.int .i64 (rowF y 7)) :=
  two_s (h.1.trans (l.mono (by have := h.1.size; simp at this; omega)))
theorem two_cells {w W : World} {x y : Int} {n : Nat} (l : Below (w.heap.size + 1 + 1) ((w.alloc (.cells #[.int .i64 (rowF x 0), .int .i64 (rowF x 1), .int .i64 (rowF x 2), .int .i64 (rowF x 3), .int .i64 (rowF x 4), .int .i64 (rowF x 5), .int .i64 (rowF x 6), .int .i64 (rowF x 7)] 26)).alloc (.cells #[.int .i64 (rowF y 0), .int .i64 (rowF y 1), .int .i64 (rowF y 2), .int .i64 (rowF y 3), .int .i64 (rowF y 4), .int .i64 (rowF y 5), .int .i64 (rowF y 6), .int .i64 (rowF y 7)] 26)) W) (hn : n < 8) : True ∧ W.cell? ⟨w.heap.size, n, none⟩ = some (.int .i64 (rowF x n)) ∧ W.cell? ⟨w.heap.size + 1, n, none⟩ = some (.int .i64 (rowF y n)) := by
  have hx0 := arrI_box w 26 (rowF x)
  have hy0 := arrI_box (w.alloc (.cells #[.int .i64 (rowF x 0), .int .i64 (rowF x 1), .int .i64 (rowF x 2), .int .i64 (rowF x 3), .int .i64 (rowF x 4), .int .i64 (rowF x 5), .int .i64 (rowF x 6), .int .i64 (rowF x 7)] 26)) 26 (rowF y)
  rw [World.size_alloc] at hy0
  exact ⟨trivial, World.rowIs.cell (ArrI.keep (ArrI.keep hx0 ((Below.refl _ _).alloc (Nat.le_refl _) (.cells #[.int .i64 (rowF y 0), .int .i64 (rowF y 1), .int .i64 (rowF y 2), .int .i64 (rowF y 3), .int .i64 (rowF y 4), .int .i64 (rowF y 5), .int .i64 (rowF y 6), .int .i64 (rowF y 7)] 26)) (by simp)) l (by omega)) hn, World.rowIs.cell (ArrI.keep hy0 l (by omega)) hn⟩
theorem cmp_below {w W : World} {x y : Int} (l : Below (w.heap.size + 1 + 1) ((w.alloc (.cells #[.int .i64 (rowF x 0), .int .i64 (rowF x 1), .int .i64 (rowF x 2), .int .i64 (rowF x 3), .int .i64 (rowF x 4), .int .i64 (rowF x 5), .int .i64 (rowF x 6), .int .i64 (rowF x 7)] 26)).alloc (.cells #[.int .i64 (rowF y 0), .int .i64 (rowF y 1), .int .i64 (rowF y 2), .int .i64 (rowF y 3), .int .i64 (rowF y 4), .int .i64 (rowF y 5), .int .i64 (rowF y 6), .int .i64 (rowF y 7)] 26)) W) : Below w.heap.size w W :=
  (((Below.refl _ _).alloc (Nat.le_refl _) _).alloc (by simp) _).trans (l.mono (by omega))
def DownI (x y : Int) (i : Value) : Prop := (∃ n : Nat, i = .int .i64 n ∧ n ≤ 7 ∧ unW x / 65536 ^ (n + 1) = unW y / 65536 ^ (n + 1)) ∨ (i = .int .i64 (-1) ∧ unW x = unW y)
set_option maxRecDepth 100000 in
set_option maxHeartbeats 8000000 in
theorem refCompare_any (x y : Int) (w : World) : Calls Try.prog 22 #[.agg #[.int .i64 (rowF x 0), .int .i64 (rowF x 1), .int .i64 (rowF x 2), .int .i64 (rowF x 3), .int .i64 (rowF x 4), .int .i64 (rowF x 5), .int .i64 (rowF x 6), .int .i64 (rowF x 7)], .agg #[.int .i64 (rowF y 0), .int .i64 (rowF y 1), .int .i64 (rowF y 2), .int .i64 (rowF y 3), .int .i64 (rowF y 4), .int .i64 (rowF y 5), .int .i64 (rowF y 6), .int .i64 (rowF y 7)]] w fun e w' => e = .returned (.int .i64 (cmpI (svW x) (svW y))) ∧ Below w.heap.size w w' := by
  have K1 := Lib.hid (fun W => refSign_any x W)
  have K2 := Lib.hid (fun W => refSign_any y W)
  obtain ⟨s, hs⟩ : ∃ s, s = sgnI (svW x) := ⟨_, rfl⟩
  obtain ⟨t, ht⟩ : ∃ t, t = sgnI (svW y) := ⟨_, rfl⟩
  rw [← hs] at K1
  rw [← ht] at K2
  have HST := Lib.hid (And.intro hs ht)
  obtain ⟨b0, hb0⟩ : ∃ b0, b0 = (w.alloc (.cells #[.int .i64 (rowF x 0), .int .i64 (rowF x 1), .int .i64 (rowF x 2), .int .i64 (rowF x 3), .int .i64 (rowF x 4), .int .i64 (rowF x 5), .int .i64 (rowF x 6), .int .i64 (rowF x 7)] 26)).alloc (.cells #[.int .i64 (rowF y 0), .int .i64 (rowF y 1), .int .i64 (rowF y 2), .int .i64 (rowF y 3), .int .i64 (rowF y 4), .int .i64 (rowF y 5), .int .i64 (rowF y 6), .int .i64 (rowF y 7)] 26) := ⟨_, rfl⟩
  have hx0 := arrI_box w 26 (rowF x)
  have hy0 := arrI_box (w.alloc (.cells #[.int .i64 (rowF x 0), .int .i64 (rowF x 1), .int .i64 (rowF x 2), .int .i64 (rowF x 3), .int .i64 (rowF x 4), .int .i64 (rowF x 5), .int .i64 (rowF x 6), .int .i64 (rowF x 7)] 26)) 26 (rowF y)
  rw [World.size_alloc, ← hb0] at hy0
  have hx1 : ArrI b0 26 w.heap.size (rowF x) := by rw [hb0]; exact ArrI.keep hx0 ((Below.refl _ _).alloc (Nat.le_refl _) _) (by simp)
  have hs0 : b0.heap.size = w.heap.size + 1 + 1 := by rw [hb0]; simp
  have hl0 : Below w.heap.size w b0 := by rw [hb0]; exact ((Below.refl _ _).alloc (Nat.le_refl _) _).alloc (by simp) _
  have H0 := Lib.hid (And.intro hb0 (And.intro hx1 (And.intro hy0 (And.intro hs0 hl0))))
  clear hb0 hx0 hy0 hx1 hs0 hl0 hs ht H0
  by_cases hx : svW x < 0
  · obtain rfl : s = -1 := by rw [HST.out.1, sgn_neg hx]
    by_cases hy : svW y < 0
    · obtain rfl : t = -1 := by rw [HST.out.2, sgn_neg hy]
      have HSS := Lib.hid (show SameS x y from .inl ⟨hx, hy⟩)
      clear hx hy
      go_enter Try.func22, Try.ntmps22
      go_wp2
      go_region_held3 (fun W => Below (w.heap.size + 1 + 1) ((w.alloc (.cells #[.int .i64 (rowF x 0), .int .i64 (rowF x 1), .int .i64 (rowF x 2), .int .i64 (rowF x 3), .int .i64 (rowF x 4), .int .i64 (rowF x 5), .int .i64 (rowF x 6), .int .i64 (rowF x 7)] 26)).alloc (.cells #[.int .i64 (rowF y 0), .int .i64 (rowF y 1), .int .i64 (rowF y 2), .int .i64 (rowF y 3), .int .i64 (rowF y 4), .int .i64 (rowF y 5), .int .i64 (rowF y 6), .int .i64 (rowF y 7)] 26)) W ∧ W.cell? ⟨w.heap.size, 0, none⟩ = some (.int .i64 (rowF x 0)) ∧ W.cell? ⟨w.heap.size, 1, none⟩ = some (.int .i64 (rowF x 1)) ∧ W.cell? ⟨w.heap.size, 2, none⟩ = some (.int .i64 (rowF x 2)) ∧ W.cell? ⟨w.heap.size, 3, none⟩ = some (.int .i64 (rowF x 3)) ∧ W.cell? ⟨w.heap.size, 4, none⟩ = some (.int .i64 (rowF x 4)) ∧ W.cell? ⟨w.heap.size, 5, none⟩ = some (.int .i64 (rowF x 5)) ∧ W.cell? ⟨w.heap.size, 6, none⟩ = some (.int .i64 (rowF x 6)) ∧ W.cell? ⟨w.heap.size, 7, none⟩ = some (.int .i64 (rowF x 7)) ∧ W.cell? ⟨w.heap.size + 1, 0, none⟩ = some (.int .i64 (rowF y 0)) ∧ W.cell? ⟨w.heap.size + 1, 1, none⟩ = some (.int .i64 (rowF y 1)) ∧ W.cell? ⟨w.heap.size + 1, 2, none⟩ = some (.int .i64 (rowF y 2)) ∧ W.cell? ⟨w.heap.size + 1, 3, none⟩ = some (.int .i64 (rowF y 3)) ∧ W.cell? ⟨w.heap.size + 1, 4, none⟩ = some (.int .i64 (rowF y 4)) ∧ W.cell? ⟨w.heap.size + 1, 5, none⟩ = some (.int .i64 (rowF y 5)) ∧ W.cell? ⟨w.heap.size + 1, 6, none⟩ = some (.int .i64 (rowF y 6)) ∧ W.cell? ⟨w.heap.size + 1, 7, none⟩ = some (.int .i64 (rowF y 7))) (first
          | assumption
          | exact two_s (Below.refl _ _)
          | exact two_s (Below.refl _ _).drew) (first
          | (go_at_call 24; (with_reducible refine (K1.out _).mono ?_); rintro e w1 ⟨rfl, l1⟩; have hS := two_keep l1 (by first | assumption | exact two_s (Below.refl _ _) | exact two_s (Below.refl _ _).drew); clear l1)
          | (go_at_call 24; (with_reducible refine (K2.out _).mono ?_); rintro e w2 ⟨rfl, l2⟩; have hS := two_keep l2 (by first | assumption | exact two_s (Below.refl _ _) | exact two_s (Below.refl _ _).drew); clear l2))
      have HB := Lib.hid hS.1
      clear hS
      go_wp2
      go_loopw [7] (fun i wr => DownI x y i ∧ Below (w.heap.size + 1 + 1) ((w.alloc (.cells #[.int .i64 (rowF x 0), .int .i64 (rowF x 1), .int .i64 (rowF x 2), .int .i64 (rowF x 3), .int .i64 (rowF x 4), .int .i64 (rowF x 5), .int .i64 (rowF x 6), .int .i64 (rowF x 7)] 26)).alloc (.cells #[.int .i64 (rowF y 0), .int .i64 (rowF y 1), .int .i64 (rowF y 2), .int .i64 (rowF y 3), .int .i64 (rowF y 4), .int .i64 (rowF y 5), .int .i64 (rowF y 6), .int .i64 (rowF y 7)] 26)) wr) (fun i _ => (intOf i + 1).toNat)
      case atStart => exact ⟨.inl ⟨7, rfl, by omega, by rw [un_top, un_top]⟩, by first | exact HB.out | exact HB.out.drew⟩
      case round =>
        obtain ⟨hd, hbel⟩ := hrel
        obtain ⟨wo, hwo⟩ : ∃ wo, wo = wr := ⟨_, rfl⟩
        subst hwo
        have HBel := Lib.hid hbel
        rcases hd with ⟨n, rfl, hn, hq⟩ | ⟨rfl, he⟩
        · obtain ⟨_, hS⟩ := two_cells hbel (by omega : n < 8)
          obtain ⟨hca, hcb⟩ := hS
          obtain ⟨p, hp⟩ : ∃ p, p = rowF x n := ⟨_, rfl⟩
          obtain ⟨q, hq2⟩ : ∃ q, q = rowF y n := ⟨_, rfl⟩
          rw [← hp] at hca
          rw [← hq2] at hcb
          have HP := Lib.hid (And.intro hp (And.intro hq2 hq))
          have hnI : (n : Int) < 8 := by omega
          have hnI0 : (n : Int) ≤ 7 := by omega
          clear hp hq2 hq hbel
          rcases Int.lt_trichotomy p q with hlt | heq | hgt
          · have hdt : decide (p < q) = true := decide_eq_true hlt
            go_wp2
            go_quiet (fail)
            go_wp2
            go_ret
            exact ⟨ret_i (un_cmp_lt HSS.out (un_lt (by omega) HP.out.2.2 (by rw [← HP.out.1, ← HP.out.2.1]; exact hlt))).symm, cmp_below (by first | exact below_drewN HBel.out _ | exact below_drewN (below_drewN HBel.out _) _)⟩
          · subst heq
            have HE := Lib.hid (un_eq (by omega : n < 8) HP.out.2.2 (by rw [← HP.out.1, ← HP.out.2.1]))
            rcases Nat.eq_zero_or_pos n with h0 | h0
            · subst h0
              go_wp2
              go_quiet (fail)
              go_wp2
              go_quiet (fail)
              go_wp2
              go_roundw
              case rel => exact ⟨.inr ⟨rfl, by have := HE.out; rwa [Int.pow_zero, Int.ediv_one, Int.ediv_one] at this⟩, by first | exact below_drewN HBel.out _ | exact below_drewN (below_drewN HBel.out _) _⟩
              case measure => simp [intOf]
            · obtain ⟨m, rfl⟩ : ∃ m, n = m + 1 := ⟨n - 1, by omega⟩
              go_wp2
              go_quiet (fail)
              go_wp2
              go_quiet (fail)
              go_wp2
              go_roundw
              case rel => exact ⟨.inl ⟨m, by first | rfl | go_num | exact int_eq' (by omega), by omega, HE.out⟩, below_drewN HBel.out _⟩
              case measure => simp [intOf]; omega
          · have hdt : decide (p < q) = false := decide_eq_false (by omega)
            have hdt2 : decide (q < p) = true := decide_eq_true hgt
            go_wp2
            go_quiet (fail)
            go_wp2
            go_quiet (fail)
            go_wp2
            go_ret
            exact ⟨ret_i (un_cmp_gt HSS.out (un_lt (by omega) HP.out.2.2.symm (by rw [← HP.out.1, ← HP.out.2.1]; exact hgt))).symm, cmp_below (by first | exact below_drewN HBel.out _ | exact below_drewN (below_drewN HBel.out _) _)⟩
        · have HE := Lib.hid (un_cmp_eq HSS.out he)
          clear he hbel
          go_wp2
          go_ret
          exact ⟨ret_i HE.out.symm, cmp_below HBel.out⟩
    · have ht0 : 0 ≤ t := by rw [HST.out.2]; unfold sgnI; rw [if_neg hy]; split <;> omega
      have HC := Lib.hid (show cmpI (svW x) (svW y) = -1 from cmpI_lt (by omega))
      clear hx hy
      go_enter Try.func22, Try.ntmps22
      go_wp2
      go_region_held3 (fun W => Below (w.heap.size + 1 + 1) ((w.alloc (.cells #[.int .i64 (rowF x 0), .int .i64 (rowF x 1), .int .i64 (rowF x 2), .int .i64 (rowF x 3), .int .i64 (rowF x 4), .int .i64 (rowF x 5), .int .i64 (rowF x 6), .int .i64 (rowF x 7)] 26)).alloc (.cells #[.int .i64 (rowF y 0), .int .i64 (rowF y 1), .int .i64 (rowF y 2), .int .i64 (rowF y 3), .int .i64 (rowF y 4), .int .i64 (rowF y 5), .int .i64 (rowF y 6), .int .i64 (rowF y 7)] 26)) W ∧ W.cell? ⟨w.heap.size, 0, none⟩ = some (.int .i64 (rowF x 0)) ∧ W.cell? ⟨w.heap.size, 1, none⟩ = some (.int .i64 (rowF x 1)) ∧ W.cell? ⟨w.heap.size, 2, none⟩ = some (.int .i64 (rowF x 2)) ∧ W.cell? ⟨w.heap.size, 3, none⟩ = some (.int .i64 (rowF x 3)) ∧ W.cell? ⟨w.heap.size, 4, none⟩ = some (.int .i64 (rowF x 4)) ∧ W.cell? ⟨w.heap.size, 5, none⟩ = some (.int .i64 (rowF x 5)) ∧ W.cell? ⟨w.heap.size, 6, none⟩ = some (.int .i64 (rowF x 6)) ∧ W.cell? ⟨w.heap.size, 7, none⟩ = some (.int .i64 (rowF x 7)) ∧ W.cell? ⟨w.heap.size + 1, 0, none⟩ = some (.int .i64 (rowF y 0)) ∧ W.cell? ⟨w.heap.size + 1, 1, none⟩ = some (.int .i64 (rowF y 1)) ∧ W.cell? ⟨w.heap.size + 1, 2, none⟩ = some (.int .i64 (rowF y 2)) ∧ W.cell? ⟨w.heap.size + 1, 3, none⟩ = some (.int .i64 (rowF y 3)) ∧ W.cell? ⟨w.heap.size + 1, 4, none⟩ = some (.int .i64 (rowF y 4)) ∧ W.cell? ⟨w.heap.size + 1, 5, none⟩ = some (.int .i64 (rowF y 5)) ∧ W.cell? ⟨w.heap.size + 1, 6, none⟩ = some (.int .i64 (rowF y 6)) ∧ W.cell? ⟨w.heap.size + 1, 7, none⟩ = some (.int .i64 (rowF y 7))) (first
          | assumption
          | exact two_s (Below.refl _ _)
          | exact two_s (Below.refl _ _).drew) (first
          | (go_at_call 24; (with_reducible refine (K1.out _).mono ?_); rintro e w1 ⟨rfl, l1⟩; have hS := two_keep l1 (by first | assumption | exact two_s (Below.refl _ _) | exact two_s (Below.refl _ _).drew); clear l1)
          | (go_at_call 24; (with_reducible refine (K2.out _).mono ?_); rintro e w2 ⟨rfl, l2⟩; have hS := two_keep l2 (by first | assumption | exact two_s (Below.refl _ _) | exact two_s (Below.refl _ _).drew); clear l2))
      have HB := Lib.hid hS.1
      clear hS
      go_wp2
      go_ret
      exact ⟨ret_i (HC.out.symm), cmp_below HB.out⟩
  · have hs0 : 0 ≤ s := by rw [HST.out.1]; unfold sgnI; rw [if_neg hx]; split <;> omega
    have hs1 : ¬ s < 0 := by omega
    by_cases hy : svW y < 0
    · obtain rfl : t = -1 := by rw [HST.out.2, sgn_neg hy]
      have HC := Lib.hid (show cmpI (svW x) (svW y) = 1 from cmpI_gt (by omega))
      clear hx hy
      go_enter Try.func22, Try.ntmps22
      go_wp2
      go_region_held3 (fun W => Below (w.heap.size + 1 + 1) ((w.alloc (.cells #[.int .i64 (rowF x 0), .int .i64 (rowF x 1), .int .i64 (rowF x 2), .int .i64 (rowF x 3), .int .i64 (rowF x 4), .int .i64 (rowF x 5), .int .i64 (rowF x 6), .int .i64 (rowF x 7)] 26)).alloc (.cells #[.int .i64 (rowF y 0), .int .i64 (rowF y 1), .int .i64 (rowF y 2), .int .i64 (rowF y 3), .int .i64 (rowF y 4), .int .i64 (rowF y 5), .int .i64 (rowF y 6), .int .i64 (rowF y 7)] 26)) W ∧ W.cell? ⟨w.heap.size, 0, none⟩ = some (.int .i64 (rowF x 0)) ∧ W.cell? ⟨w.heap.size, 1, none⟩ = some (.int .i64 (rowF x 1)) ∧ W.cell? ⟨w.heap.size, 2, none⟩ = some (.int .i64 (rowF x 2)) ∧ W.cell? ⟨w.heap.size, 3, none⟩ = some (.int .i64 (rowF x 3)) ∧ W.cell? ⟨w.heap.size, 4, none⟩ = some (.int .i64 (rowF x 4)) ∧ W.cell? ⟨w.heap.size, 5, none⟩ = some (.int .i64 (rowF x 5)) ∧ W.cell? ⟨w.heap.size, 6, none⟩ = some (.int .i64 (rowF x 6)) ∧ W.cell? ⟨w.heap.size, 7, none⟩ = some (.int .i64 (rowF x 7)) ∧ W.cell? ⟨w.heap.size + 1, 0, none⟩ = some (.int .i64 (rowF y 0)) ∧ W.cell? ⟨w.heap.size + 1, 1, none⟩ = some (.int .i64 (rowF y 1)) ∧ W.cell? ⟨w.heap.size + 1, 2, none⟩ = some (.int .i64 (rowF y 2)) ∧ W.cell? ⟨w.heap.size + 1, 3, none⟩ = some (.int .i64 (rowF y 3)) ∧ W.cell? ⟨w.heap.size + 1, 4, none⟩ = some (.int .i64 (rowF y 4)) ∧ W.cell? ⟨w.heap.size + 1, 5, none⟩ = some (.int .i64 (rowF y 5)) ∧ W.cell? ⟨w.heap.size + 1, 6, none⟩ = some (.int .i64 (rowF y 6)) ∧ W.cell? ⟨w.heap.size + 1, 7, none⟩ = some (.int .i64 (rowF y 7))) (first
          | assumption
          | exact two_s (Below.refl _ _)
          | exact two_s (Below.refl _ _).drew) (first
          | (go_at_call 24; (with_reducible refine (K1.out _).mono ?_); rintro e w1 ⟨rfl, l1⟩; have hS := two_keep l1 (by first | assumption | exact two_s (Below.refl _ _) | exact two_s (Below.refl _ _).drew); clear l1)
          | (go_at_call 24; (with_reducible refine (K2.out _).mono ?_); rintro e w2 ⟨rfl, l2⟩; have hS := two_keep l2 (by first | assumption | exact two_s (Below.refl _ _) | exact two_s (Below.refl _ _).drew); clear l2))
      have HB := Lib.hid hS.1
      clear hS
      go_wp2
      go_ret
      exact ⟨ret_i (HC.out.symm), cmp_below HB.out⟩
    · have ht0 : 0 ≤ t := by rw [HST.out.2]; unfold sgnI; rw [if_neg hy]; split <;> omega
      have ht1 : ¬ t < 0 := by omega
      have HSS := Lib.hid (show SameS x y from .inr ⟨hx, hy⟩)
      clear hx hy
      go_enter Try.func22, Try.ntmps22
      go_wp2
      go_region_held3 (fun W => Below (w.heap.size + 1 + 1) ((w.alloc (.cells #[.int .i64 (rowF x 0), .int .i64 (rowF x 1), .int .i64 (rowF x 2), .int .i64 (rowF x 3), .int .i64 (rowF x 4), .int .i64 (rowF x 5), .int .i64 (rowF x 6), .int .i64 (rowF x 7)] 26)).alloc (.cells #[.int .i64 (rowF y 0), .int .i64 (rowF y 1), .int .i64 (rowF y 2), .int .i64 (rowF y 3), .int .i64 (rowF y 4), .int .i64 (rowF y 5), .int .i64 (rowF y 6), .int .i64 (rowF y 7)] 26)) W ∧ W.cell? ⟨w.heap.size, 0, none⟩ = some (.int .i64 (rowF x 0)) ∧ W.cell? ⟨w.heap.size, 1, none⟩ = some (.int .i64 (rowF x 1)) ∧ W.cell? ⟨w.heap.size, 2, none⟩ = some (.int .i64 (rowF x 2)) ∧ W.cell? ⟨w.heap.size, 3, none⟩ = some (.int .i64 (rowF x 3)) ∧ W.cell? ⟨w.heap.size, 4, none⟩ = some (.int .i64 (rowF x 4)) ∧ W.cell? ⟨w.heap.size, 5, none⟩ = some (.int .i64 (rowF x 5)) ∧ W.cell? ⟨w.heap.size, 6, none⟩ = some (.int .i64 (rowF x 6)) ∧ W.cell? ⟨w.heap.size, 7, none⟩ = some (.int .i64 (rowF x 7)) ∧ W.cell? ⟨w.heap.size + 1, 0, none⟩ = some (.int .i64 (rowF y 0)) ∧ W.cell? ⟨w.heap.size + 1, 1, none⟩ = some (.int .i64 (rowF y 1)) ∧ W.cell? ⟨w.heap.size + 1, 2, none⟩ = some (.int .i64 (rowF y 2)) ∧ W.cell? ⟨w.heap.size + 1, 3, none⟩ = some (.int .i64 (rowF y 3)) ∧ W.cell? ⟨w.heap.size + 1, 4, none⟩ = some (.int .i64 (rowF y 4)) ∧ W.cell? ⟨w.heap.size + 1, 5, none⟩ = some (.int .i64 (rowF y 5)) ∧ W.cell? ⟨w.heap.size + 1, 6, none⟩ = some (.int .i64 (rowF y 6)) ∧ W.cell? ⟨w.heap.size + 1, 7, none⟩ = some (.int .i64 (rowF y 7))) (first
          | assumption
          | exact two_s (Below.refl _ _)
          | exact two_s (Below.refl _ _).drew) (first
          | (go_at_call 24; (with_reducible refine (K1.out _).mono ?_); rintro e w1 ⟨rfl, l1⟩; have hS := two_keep l1 (by first | assumption | exact two_s (Below.refl _ _) | exact two_s (Below.refl _ _).drew); clear l1)
          | (go_at_call 24; (with_reducible refine (K2.out _).mono ?_); rintro e w2 ⟨rfl, l2⟩; have hS := two_keep l2 (by first | assumption | exact two_s (Below.refl _ _) | exact two_s (Below.refl _ _).drew); clear l2))
      have HB := Lib.hid hS.1
      clear hS
      go_wp2
      go_loopw [7] (fun i wr => DownI x y i ∧ Below (w.heap.size + 1 + 1) ((w.alloc (.cells #[.int .i64 (rowF x 0), .int .i64 (rowF x 1), .int .i64 (rowF x 2), .int .i64 (rowF x 3), .int .i64 (rowF x 4), .int .i64 (rowF x 5), .int .i64 (rowF x 6), .int .i64 (rowF x 7)] 26)).alloc (.cells #[.int .i64 (rowF y 0), .int .i64 (rowF y 1), .int .i64 (rowF y 2), .int .i64 (rowF y 3), .int .i64 (rowF y 4), .int .i64 (rowF y 5), .int .i64 (rowF y 6), .int .i64 (rowF y 7)] 26)) wr) (fun i _ => (intOf i + 1).toNat)
      case atStart => exact ⟨.inl ⟨7, rfl, by omega, by rw [un_top, un_top]⟩, by first | exact HB.out | exact HB.out.drew⟩
      case round =>
        obtain ⟨hd, hbel⟩ := hrel
        obtain ⟨wo, hwo⟩ : ∃ wo, wo = wr := ⟨_, rfl⟩
        subst hwo
        have HBel := Lib.hid hbel
        rcases hd with ⟨n, rfl, hn, hq⟩ | ⟨rfl, he⟩
        · obtain ⟨_, hS⟩ := two_cells hbel (by omega : n < 8)
          obtain ⟨hca, hcb⟩ := hS
          obtain ⟨p, hp⟩ : ∃ p, p = rowF x n := ⟨_, rfl⟩
          obtain ⟨q, hq2⟩ : ∃ q, q = rowF y n := ⟨_, rfl⟩
          rw [← hp] at hca
          rw [← hq2] at hcb
          have HP := Lib.hid (And.intro hp (And.intro hq2 hq))
          have hnI : (n : Int) < 8 := by omega
          have hnI0 : (n : Int) ≤ 7 := by omega
          clear hp hq2 hq hbel
          rcases Int.lt_trichotomy p q with hlt | heq | hgt
          · have hdt : decide (p < q) = true := decide_eq_true hlt
            go_wp2
            go_quiet (fail)
            go_wp2
            go_ret
            exact ⟨ret_i (un_cmp_lt HSS.out (un_lt (by omega) HP.out.2.2 (by rw [← HP.out.1, ← HP.out.2.1]; exact hlt))).symm, cmp_below (by first | exact below_drewN HBel.out _ | exact below_drewN (below_drewN HBel.out _) _)⟩
          · subst heq
            have HE := Lib.hid (un_eq (by omega : n < 8) HP.out.2.2 (by rw [← HP.out.1, ← HP.out.2.1]))
            rcases Nat.eq_zero_or_pos n with h0 | h0
            · subst h0
              go_wp2
              go_quiet (fail)
              go_wp2
              go_quiet (fail)
              go_wp2
              go_roundw
              case rel => exact ⟨.inr ⟨rfl, by have := HE.out; rwa [Int.pow_zero, Int.ediv_one, Int.ediv_one] at this⟩, by first | exact below_drewN HBel.out _ | exact below_drewN (below_drewN HBel.out _) _⟩
              case measure => simp [intOf]
            · obtain ⟨m, rfl⟩ : ∃ m, n = m + 1 := ⟨n - 1, by omega⟩
              go_wp2
              go_quiet (fail)
              go_wp2
              go_quiet (fail)
              go_wp2
              go_roundw
              case rel => exact ⟨.inl ⟨m, by first | rfl | go_num | exact int_eq' (by omega), by omega, HE.out⟩, below_drewN HBel.out _⟩
              case measure => simp [intOf]; omega
          · have hdt : decide (p < q) = false := decide_eq_false (by omega)
            have hdt2 : decide (q < p) = true := decide_eq_true hgt
            go_wp2
            go_quiet (fail)
            go_wp2
            go_quiet (fail)
            go_wp2
            go_ret
            exact ⟨ret_i (un_cmp_gt HSS.out (un_lt (by omega) HP.out.2.2.symm (by rw [← HP.out.1, ← HP.out.2.1]; exact hgt))).symm, cmp_below (by first | exact below_drewN HBel.out _ | exact below_drewN (below_drewN HBel.out _) _)⟩
        · have HE := Lib.hid (un_cmp_eq HSS.out he)
          clear he hbel
          go_wp2
          go_ret
          exact ⟨ret_i HE.out.symm, cmp_below HBel.out⟩
end Go.Proofs.Ytdpgoddhchoefaa
