/- the document's Follow: every two postings. -/
import Derived.Test.YthpfaaindkkpcaaBRefOne
namespace Go.Proofs.Ythpfaaindkkpcaa
open Go.RowKit Go.Maps
set_option linter.unusedVariables false
set_option linter.unusedSimpArgs false

theorem refOneF_is {row len : Int} {A : Option Addr} {n c : Nat} {F : Nat → Int} {v : Bool} (h : mayB row len n F = v) (w : World) (hI : Ints w A n F) : Calls Try.prog 31 #[.agg #[.int .i64 row, .int .i64 len, .slice A n c]] w fun e w' => e = .returned (.bool v) ∧ Below w.heap.size w w' := by
  rw [← h]; exact refOne_any row len A n c F w hI
theorem among_succ (G : Nat → Int) (k : Nat) (x : Int) : amongB G (k + 1) x = (amongB G k x || decide (G k = x)) := by
  unfold amongB
  rw [Bool.eq_iff_iff, Bool.or_eq_true, decide_eq_true_eq, decide_eq_true_eq, decide_eq_true_eq]
  constructor
  · rintro ⟨j, hj, h⟩
    by_cases e : j = k
    · subst e; exact .inr h
    · exact .inl ⟨j, by omega, h⟩
  · rintro (⟨j, hj, h⟩ | h)
    · exact ⟨j, by omega, h⟩
    · exact ⟨k, by omega, h⟩
theorem among_once {len : Int} {G : Nat → Int} {m k : Nat} {x : Int} (hg : GoodTo len G m) (hk : k < m) (h : G k = x) : amongB G k x = false := by
  refine decide_eq_false ?_
  rintro ⟨j, hj, e⟩
  have := good_mono hg j k hj hk
  omega
/-- What one place of the first gives behind k of the second's. -/
def hitL (G : Nat → Int) (k : Nat) (x f : Int) : List Int := if amongB G k x = true then [f] else []
theorem hit_zero (G : Nat → Int) (x f : Int) : hitL G 0 x f = [] := by
  unfold hitL amongB
  rw [if_neg]
  simp
theorem hit_yes {len : Int} {G : Nat → Int} {m k : Nat} {x f : Int} (hg : GoodTo len G m) (hk : k < m) (h : G k = x) : hitL G k x f = [] ∧ hitL G (k + 1) x f = [f] := by
  unfold hitL
  have h1 := among_once hg hk h
  rw [among_succ, h1, h]
  simp
theorem hit_no {G : Nat → Int} {k : Nat} {x f : Int} (h : G k ≠ x) : hitL G (k + 1) x f = hitL G k x f := by
  unfold hitL
  rw [among_succ, decide_eq_false h, Bool.or_false]
theorem fol_hit (F G : Nat → Int) (m k : Nat) (d : Int) : folL F G m d (k + 1) = folL F G m d k ++ hitL G m (F k + d) (F k) := by
  rw [folL]; unfold hitL
  split <;> simp
theorem hit_len (G : Nat → Int) (k : Nat) (x f : Int) : (hitL G k x f).length ≤ 1 := by unfold hitL; split <;> simp
end Go.Proofs.Ythpfaaindkkpcaa
