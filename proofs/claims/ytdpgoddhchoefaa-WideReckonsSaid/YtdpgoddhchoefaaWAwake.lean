/- The chapter's examples of wide. -/
import Derived.Test.YtdpgoddhchoefaaWText
import Derived.Test.YtdpgoddhchoefaaWInt
namespace Go.Proofs.Ytdpgoddhchoefaa
open Go.RowKit
set_option linter.unusedVariables false

theorem great_text : (⟨(textL (1000000000000000000 * 1000000000000000000)).toArray⟩ : ByteArray) = ⟨#[49, 48, 48, 48, 48, 48, 48, 48, 48, 48, 48, 48, 48, 48, 48, 48, 48, 48, 48, 48, 48, 48, 48, 48, 48, 48, 48, 48, 48, 48, 48, 48, 48, 48, 48, 48, 48]⟩ := by
  have h1 : svW (1000000000000000000 * 1000000000000000000) = 1000000000000000000000000000000000000 := by decide
  rw [textL_pos (by omega), show szW (1000000000000000000 * 1000000000000000000) = 1000000000000000000000000000000000000 by unfold szW; omega]
  rw [dec_digL 36 _ (by decide) (.inr (by decide))]
  have : digL 1000000000000000000000000000000000000 (36 + 1) = [49, 48, 48, 48, 48, 48, 48, 48, 48, 48, 48, 48, 48, 48, 48, 48, 48, 48, 48, 48, 48, 48, 48, 48, 48, 48, 48, 48, 48, 48, 48, 48, 48, 48, 48, 48, 48] := by decide +kernel
  rw [this]
theorem wAwake_any (w : World) : Calls Try.prog 27 #[] w fun e w' => e = .returned (.bool true) ∧ Below w.heap.size w w' := by
  have k1 := fun W => mul_any 1000000000000000000 1000000000000000000 (by unfold In64; omega) (by unfold In64; omega) W
  have k2 := fun W => text_any (1000000000000000000 * 1000000000000000000) W
  rw [great_text] at k2
  obtain ⟨g, hg⟩ : ∃ g : Int, g = 1000000000000000000 * 1000000000000000000 := ⟨_, rfl⟩
  rw [← hg] at k1 k2
  clear hg
  have H1 := Lib.hid k1
  have H2 := Lib.hid k2
  have k3 := fun W => of_any (-1) (by unfold In64; omega) W
  rw [show hiW (-1) = -1 by decide, show loW (-1) = 18446744073709551615 by decide] at k3
  have H3 := Lib.hid k3
  clear k1 k2 k3
  go_enter Try.func27, Try.ntmps27
  go_wp2_with (first
    | (go_at_call 31; (with_reducible refine (H1.out _).mono ?_); rintro e w1 ⟨rfl, l1⟩; have L1 := Lib.hid l1; clear l1)
    | (go_at_call 25; (with_reducible refine (H2.out _).mono ?_); rintro e w2 ⟨rfl, l2⟩; have L2 := Lib.hid l2; clear l2)
    | (go_at_call 29; (with_reducible refine (H3.out _).mono ?_); rintro e w3 ⟨rfl, l3⟩; have L3 := Lib.hid l3; clear l3))
  go_wp2
  go_ret
  exact ⟨rfl, (L1.out.trans (L2.out.mono L1.out.size)).trans (L3.out.mono (Nat.le_trans L1.out.size L2.out.size))⟩
end Go.Proofs.Ytdpgoddhchoefaa
