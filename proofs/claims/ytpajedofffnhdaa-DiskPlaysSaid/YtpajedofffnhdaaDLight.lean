/- Acts in memory; light. -/
import Derived.Test.YtpajedofffnhdaaDDid
namespace Go.Proofs.Ytpajedofffnhdaa
open Go.RowKit
set_option linter.unusedVariables false

/-- An act in memory. -/
structure ActAt (w : World) (b o : Nat) (x : ActD) : Prop where
  c0 : w.cell? ⟨b, o, none⟩ = some (.int .i64 x.kind)
  c1 : w.cell? ⟨b, o + 1, none⟩ = some (.int .i64 x.at_)
  c2 : w.cell? ⟨b, o + 2, none⟩ = some (.int .i64 x.len)
  c3 : w.cell? ⟨b, o + 3, none⟩ = some (.int .u8 (x.b : Int))
  c4 : w.cell? ⟨b, o + 4, none⟩ = some (.slice x.fA x.fL x.fC)
theorem ActAt.keep {w w' : World} {b o : Nat} {x : ActD} (h : ActAt w b o x) (e : w'.heap[b]? = w.heap[b]?) : ActAt w' b o x :=
  have k : ∀ i, w'.cell? ⟨b, i, none⟩ = w.cell? ⟨b, i, none⟩ := fun i => World.cell?_of_block (w := w) (a := ⟨b, i, none⟩) e
  ⟨(k _).trans h.c0, (k _).trans h.c1, (k _).trans h.c2, (k _).trans h.c3, (k _).trans h.c4⟩
/-- A slice of acts that can be read. -/
def Acts (w : World) (A : Option Addr) (n : Nat) (X : Nat → ActD) : Prop :=
  n ≤ 9223372036854775807 ∧ (∀ i, i < n → (X i).ok w) ∧ (0 < n → ∃ b o, A = some ⟨b, o, none⟩ ∧ ∀ i, i < n → ActAt w b (o + i * 5) (X i))
def lightB (n : Nat) (X : Nat → ActD) : Bool := decide (n ≤ 40 ∧ ∀ i, i < n → (X i).fL ≤ 60)

theorem light_any (A : Option Addr) (n c : Nat) (X : Nat → ActD) (w : World) (h : Acts w A n X) :
    Calls Try.prog 7 #[.slice A n c] w fun e w' => e = .returned (.bool (lightB n X)) ∧ w = w' := by
  have hn := h.1
  by_cases h40 : 40 < n
  · have R := Lib.hid (show lightB n X = false by unfold lightB; simp; omega)
    go_enter Try.func7, Try.ntmps7
    go_wp2
    go_ret
    exact ⟨by rw [R.out]; rfl, rfl⟩
  · have H := Lib.hid h
    clear h
    go_enter Try.func7, Try.ntmps7
    go_wp2
    go_loop [3] (fun i => ∃ k : Nat, k ≤ n ∧ i = .int .i64 k ∧ ∀ i, i < k → (X i).fL ≤ 60) (fun i => n - (intOf i).toNat)
    case atStart => exact ⟨0, Nat.zero_le _, rfl, fun i hi => absurd hi (by omega)⟩
    case round =>
      obtain ⟨k, hk, rfl, hf⟩ := hrel
      have HF := Lib.hid hf
      clear hf
      by_cases hlt : k < n
      · obtain ⟨b, o, rfl, hc⟩ := H.out.2.2 (by omega)
        have h4 := (hc k hlt).c4
        have hfl := (H.out.2.1 k hlt).f.1
        clear hc
        by_cases h60 : 60 < (X k).fL
        · have R := Lib.hid (show lightB n X = false by unfold lightB; rw [decide_eq_false_iff_not]; exact fun q => by have := q.2 k hlt; omega)
          go_wp2
          go_ret
          exact ⟨by rw [R.out]; rfl, rfl⟩
        · go_wp2
          go_round
          case rel => exact ⟨k + 1, by omega, by go_num, fun i hi => by
            rcases Nat.lt_or_ge i k with q | q
            · exact HF.out i q
            · obtain rfl : i = k := by omega
              omega⟩
          case measure => simp [intOf]; omega
      · obtain rfl : k = n := by omega
        have R := Lib.hid (show lightB k X = true by unfold lightB; rw [decide_eq_true_iff]; exact ⟨by omega, HF.out⟩)
        go_wp2
        go_ret
        exact ⟨by rw [R.out]; rfl, rfl⟩
end Go.Proofs.Ytpajedofffnhdaa
