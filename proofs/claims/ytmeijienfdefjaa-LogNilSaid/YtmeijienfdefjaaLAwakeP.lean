/- the law's full and awake of chapter 11: plain. -/
import Derived.Test.YtmeijienfdefjaaLNilC
import Derived.Test.YtmeijienfdefjaaDAwake
namespace Go.Proofs.Ytmeijienfdefjaa
open Go.RowKit
set_option linter.unusedVariables false
def awX (A : Nat → Option Addr) (i : Nat) : ChD := ⟨if i = 0 then 5 else 6, A i, 19, 19, fun _ => if i = 0 then 1 else 2⟩
def awS (A : Nat → Option Addr) : DS := flushD (wrS 2 64 (logSec 64 1 0 2 (awX A)) (newS 8 64) 2)
theorem awS_0 (A : Nat → Option Addr) : chAt (awS A) 2 1 0 := by
  show chAt (awS fun _ => none) 2 1 0
  decide +kernel
theorem awS_1 (A : Nat → Option Addr) : chAt (awS A) 2 1 1 := by
  show chAt (awS fun _ => none) 2 1 1
  decide +kernel
theorem awS_2 (A : Nat → Option Addr) : ¬ chAt (awS A) 2 1 2 := by
  show ¬ chAt (awS fun _ => none) 2 1 2
  decide +kernel
theorem awW_0 (A : Nat → Option Addr) : ∀ j, j < 2 → wrI 2 64 (logSec 64 1 0 2 (awX A)) (newS 8 64) j = 0 := by
  show ∀ j, j < 2 → wrI 2 64 (logSec 64 1 0 2 (awX fun _ => none)) (newS 8 64) j = 0
  decide +kernel
theorem awW_f (A : Nat → Option Addr) : flushI (wrS 2 64 (logSec 64 1 0 2 (awX A)) (newS 8 64) 2) = 0 := by
  show flushI (wrS 2 64 (logSec 64 1 0 2 (awX fun _ => none)) (newS 8 64) 2) = 0
  decide +kernel
theorem awL (A : Nat → Option Addr) : lastB (awS A) 2 0 = false ∧ lastB (awS A) 2 1 = true := by
  show lastB (awS fun _ => none) 2 0 = false ∧ lastB (awS fun _ => none) 2 1 = true
  decide +kernel
theorem awG (A : Nat → Option Addr) : (gTo (lastB (awS A) 2) 2).1 = [[0, 1]] := by
  show ((List.range 2).foldl (gStep (lastB (awS A) 2)) ([], [])).1 = [[0, 1]]
  simp [List.range_succ, gStep, (awL A).1, (awL A).2]
theorem awU (A : Nat → Option Addr) : (awS A).down = false ∧ (awS A).N = 8 ∧ (awS A).size = 64 ∧ (awS A).loose.length ≤ 9 := by
  show (awS fun _ => none).down = false ∧ (awS fun _ => none).N = 8 ∧ (awS fun _ => none).size = 64 ∧ (awS fun _ => none).loose.length ≤ 9
  decide +kernel
theorem awP (A : Nat → Option Addr) : pageI (fun i => (awS A).now (2 + 1) i) = 6 ∧ ∀ i, i < 19 → (awS A).now (2 + 1) (25 + i) = 2 := by
  show pageI (fun i => (awS fun _ => none).now (2 + 1) i) = 6 ∧ ∀ i, i < 19 → (awS fun _ => none).now (2 + 1) (25 + i) = 2
  decide +kernel
theorem awR (A : Nat → Option Addr) : refuseI false 2 (awX A) ((newS 8 64).size - 45) ((4 : Nat) - (0 : Nat)) = 0 := by
  unfold refuseI
  rw [if_neg (by simp), if_neg (by simp), if_neg, if_neg, if_neg (by omega)]
  · rintro ⟨i, hi, h⟩
    exact h rfl
  · rintro ⟨i, hi, h⟩
    refine h ?_
    unfold pageB awX
    dsimp only
    split <;> omega
end Go.Proofs.Ytmeijienfdefjaa
