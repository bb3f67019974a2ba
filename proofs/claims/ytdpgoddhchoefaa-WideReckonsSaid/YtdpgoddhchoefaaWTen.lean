/- wide's tenth and size. -/
import Derived.Test.YtdpgoddhchoefaaWDiv
import Derived.Test.YtdpgoddhchoefaaWTextM
import Derived.WalkSmall
namespace Go.Proofs.Ytdpgoddhchoefaa
open Go.RowKit
set_option linter.unusedVariables false

theorem ret3_u {a b c d e f : Int} (h1 : a = d) (h2 : b = e) (h3 : c = f) : Ending.returned (.tuple #[.int .u64 a, .int .u64 b, .int .u64 c]) = .returned (.tuple #[.int .u64 d, .int .u64 e, .int .u64 f]) := by rw [h1, h2, h3]
theorem tenth_any (N : Nat) (hN : N < 340282366920938463463374607431768211456) (w : World) :
    Calls Try.prog 72 #[.int .u64 ((N : Int) / 18446744073709551616), .int .u64 ((N : Int) % 18446744073709551616)] w fun e w' => e = .returned (.tuple #[.int .u64 (((N / 10 : Nat) : Int) / 18446744073709551616), .int .u64 (((N / 10 : Nat) : Int) % 18446744073709551616), .int .u64 ((N % 10 : Nat) : Int)]) ∧ Below w.heap.size w w' := by
  obtain ⟨e1, e2, e3⟩ := half_tenth N
  obtain ⟨h, hh⟩ : ∃ h, h = (N : Int) / 18446744073709551616 := ⟨_, rfl⟩
  obtain ⟨l, hl⟩ : ∃ l, l = (N : Int) % 18446744073709551616 := ⟨_, rfl⟩
  have h0 : 0 ≤ h := by omega
  have h1 : h < 18446744073709551616 := by omega
  have l0 : 0 ≤ l := by omega
  have K := Lib.hid (fun W => div_ten (h % 10) l (by omega) (by omega) l0 (by omega) W)
  rw [← hh, ← hl]
  rw [← hh] at e1
  rw [← hh, ← hl] at e2 e3
  have E1 := Lib.hid (And.intro e1 (And.intro e2 e3))
  have d1 : IntKind.u64.wrap (h.tmod 10) = h % 10 := by rw [Int.tmod_eq_emod_of_nonneg h0]; exact u64_in (by omega) (by omega)
  have d2 : IntKind.u64.wrap (h.tdiv 10) = h / 10 := by rw [Int.tdiv_eq_ediv_of_nonneg h0]; exact u64_in (by omega) (by omega)
  clear hh hl e1 e2 e3 hN h1
  go_enter Try.func72, Try.ntmps72
  go_wp2_with (go_at_call 83; (with_reducible refine (K.out _).mono ?_); rintro e w' ⟨rfl, l1⟩)
  go_wp2
  go_ret3
  exact ⟨ret3_u E1.out.1 E1.out.2.1 E1.out.2.2, l1⟩
set_option maxRecDepth 100000 in
theorem size_any (x : Int) (w : World) : Calls Try.prog 71 #[.agg #[.int .i64 (hiW x), .int .u64 (loW x)]] w fun e w' => e = .returned (.tuple #[.int .u64 ((szW x : Int) / 18446744073709551616), .int .u64 ((szW x : Int) % 18446744073709551616)]) ∧ Below w.heap.size w w' := by
  by_cases hs : svW x < 0
  · have E := Lib.hid (size_neg x hs)
    have h1 := (hi_sign x).1 hs
    have K := Lib.hid (fun W => turned_any x W)
    have b0 := loW_bd (-x)
    clear hs
    go_enter Try.func71, Try.ntmps71
    go_wp2_with (go_at_call 20; (with_reducible refine (K.out _).mono ?_); rintro e w' ⟨rfl, l1⟩; obtain ⟨hc, hf⟩ := bcell l1; have hz : w.heap.size < w'.heap.size := by have := l1.size; simp at this; omega)
    go_wp2
    go_quiet (fail)
    go_wp2
    go_ret2
    refine ⟨ret2_u E.out.1 E.out.2, below_drewN (?_) _⟩
    exact ((((Below.refl _ _).alloc (Nat.le_refl _) _).trans (l1.mono (by simp))).setCell (by simp) _).setCell (by simp) _
  · have E := Lib.hid (size_pos x hs)
    have h1 : ¬ hiW x < 0 := fun h => hs ((hi_sign x).2 h)
    have b0 := loW_bd x
    have u1 : IntKind.u64.wrap (hiW x) = hiW x := u64_in (by omega) (by have := hiW_bd x; omega)
    clear hs
    go_enter Try.func71, Try.ntmps71
    go_wp2
    go_quiet (fail)
    go_wp2
    go_ret2
    exact ⟨ret2_u E.out.1 E.out.2, below_drewN ((Below.refl _ _).alloc (Nat.le_refl _) _) _⟩
end Go.Proofs.Ytdpgoddhchoefaa
