/- how turns, edges and meetings are symmetric: plain. -/
import Derived.Test.YtlkdjpidofnhdaaGPlain
namespace Go.Proofs.Ytlkdjpidofnhdaa
open Go.RowKit
set_option linter.unusedVariables false


theorem cross_rot (a b c : Pt) : cross b c a = cross a b c := by unfold cross; grind
theorem cross_sw (a b c : Pt) : cross b a c = -cross a b c := by unfold cross; grind
theorem sgnI_neg (v : Int) : sgnI (-v) = -sgnI v := by unfold sgnI; split <;> split <;> (try split) <;> (try split) <;> omega
theorem turn_rot (a b c : Pt) : turnI b c a = turnI a b c := by
  unfold turnI
  rw [cross_rot]
  have : May3 b c a ↔ May3 a b c := by unfold May3; exact ⟨fun h => ⟨h.2.2, h.1, h.2.1⟩, fun h => ⟨h.2.1, h.2.2, h.1⟩⟩
  simp only [this]
theorem turn_sw (a b c : Pt) : turnI b a c = -turnI a b c := by
  unfold turnI
  rw [cross_sw, sgnI_neg]
  have : May3 b a c ↔ May3 a b c := by unfold May3; exact ⟨fun h => ⟨h.2.1, h.1, h.2.2⟩, fun h => ⟨h.2.1, h.1, h.2.2⟩⟩
  simp only [this]
  split <;> rfl
theorem on_sw (a b c : Pt) : onB b a c = onB a b c := by
  unfold onB
  have : OnP b a c ↔ OnP a b c := by
    unfold OnP May3
    rw [cross_sw, Int.min_comm b.x, Int.max_comm b.x, Int.min_comm b.y, Int.max_comm b.y]
    constructor <;> rintro ⟨⟨h1, h2, h3⟩, h4, h5, h6, h7, h8⟩ <;> exact ⟨⟨h2, h1, h3⟩, h4, h5, h6, h7, by omega⟩
  simp only [this]
theorem cross4_sw (a b c d : Pt) : crossB b a c d = crossB a b c d := by
  unfold crossB
  rw [turn_sw a b c, turn_sw a b d, Int.neg_mul_neg, Int.mul_comm (turnI c d b)]
theorem cross4_sw2 (a b c d : Pt) : crossB a b d c = crossB a b c d := by
  unfold crossB
  rw [turn_sw c d a, turn_sw c d b, Int.neg_mul_neg, Int.mul_comm (turnI a b d)]
theorem cross4_rot (a b c d : Pt) : crossB c d a b = crossB a b c d := by
  unfold crossB
  simp only [And.comm]
theorem meet_rot (a b c d : Pt) : meetB c d a b = meetB a b c d := by
  unfold meetB
  rw [cross4_rot]
  have : May4 c d a b ↔ May4 a b c d := by unfold May4; constructor <;> rintro ⟨h1, h2, h3, h4⟩ <;> exact ⟨h3, h4, h1, h2⟩
  simp only [this]
  congr 1
  grind
theorem meet_sw (a b c d : Pt) : meetB b a c d = meetB a b c d := by
  unfold meetB
  rw [cross4_sw, on_sw a b c, on_sw a b d]
  have : May4 b a c d ↔ May4 a b c d := by unfold May4; constructor <;> rintro ⟨h1, h2, h3, h4⟩ <;> exact ⟨h2, h1, h3, h4⟩
  simp only [this]
  congr 1
  grind
theorem meet_sw2 (a b c d : Pt) : meetB a b d c = meetB a b c d := by
  unfold meetB
  rw [cross4_sw2, on_sw c d a, on_sw c d b]
  have : May4 a b d c ↔ May4 a b c d := by unfold May4; constructor <;> rintro ⟨h1, h2, h3, h4⟩ <;> exact ⟨h1, h2, h4, h3⟩
  simp only [this]
  congr 1
  grind
theorem cross_meet {a b c d : Pt} (h : crossB a b c d = true) : meetB a b c d = true := by
  have h' := h
  unfold crossB at h'
  rw [decide_eq_true_eq] at h'
  have m1 : May3 a b c := by
    rcases Decidable.em (May3 a b c) with k | k
    · exact k
    · rw [turn_no k, Int.zero_mul] at h'; omega
  have m2 : May3 a b d := by
    rcases Decidable.em (May3 a b d) with k | k
    · exact k
    · rw [turn_no k, Int.mul_zero] at h'; omega
  unfold meetB
  rw [decide_eq_true_eq]
  exact ⟨⟨m1.1, m1.2.1, m1.2.2, m2.2.2⟩, .inl h⟩
end Go.Proofs.Ytlkdjpidofnhdaa
