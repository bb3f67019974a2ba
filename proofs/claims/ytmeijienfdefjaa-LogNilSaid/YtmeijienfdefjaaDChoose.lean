/- The contracts of chooser and of what it hands out: the fates, one a call. -/
import Derived.Test.YtmeijienfdefjaaDSettle
import Derived.RangeFuncBox
namespace Go.Proofs.Ytmeijienfdefjaa
open Go.RowKit

/-- A slice of ints that can be read. -/
def Ints (w : World) (A : Option Addr) (n : Nat) (fa : Nat → Int) : Prop :=
  n ≤ 9223372036854775807 ∧ (∀ i, i < n → -9223372036854775808 ≤ fa i ∧ fa i ≤ 9223372036854775807) ∧ (0 < n → ∃ b o, A = some ⟨b, o, none⟩ ∧ ∀ i, i < n → w.cell? ⟨b, o + i, none⟩ = some (.int .i64 (fa i)))
theorem Ints.keep {w w' : World} {A : Option Addr} {n : Nat} {fa : Nat → Int} (h : Ints w A n fa) (k : ∀ b o, A = some ⟨b, o, none⟩ → 0 < n → w'.heap[b]? = w.heap[b]?) : Ints w' A n fa :=
  ⟨h.1, h.2.1, fun hn => by
    obtain ⟨b, o, rfl, hc⟩ := h.2.2 hn
    exact ⟨b, o, rfl, fun i hi => (World.cell?_of_block (w := w) (a := ⟨b, o + i, none⟩) (k b o rfl hn)).trans (hc i hi)⟩⟩
theorem Ints.blk {w : World} {A : Option Addr} {n : Nat} {fa : Nat → Int} (h : Ints w A n fa) : ∀ b o, A = some ⟨b, o, none⟩ → 0 < n → b < w.heap.size := by
  rintro b o rfl hn
  obtain ⟨b', o', e, hc⟩ := h.2.2 hn
  injection e with e
  injection e with e1 e2
  subst e1
  have := hc 0 hn
  rcases Nat.lt_or_ge b w.heap.size with hlt | hge
  · exact hlt
  · rw [World.cell?, Array.getElem?_eq_none hge] at this
    cases this

/-- The k-th choice of n. -/
def choiceN (fa : Nat → Int) (L i n : Nat) : Nat := if i < L then (fa i % (n : Int)).toNat else 0
def nextN (L i : Nat) : Nat := if i < L then i + 1 else i

theorem tmod_as (x : Int) (n : Nat) (hn : 1 ≤ n) : x % (n : Int) = if x.tmod (n : Int) < 0 then x.tmod (n : Int) + n else x.tmod (n : Int) := by
  have h1 := Int.tmod_eq_emod (a := x) (b := (n : Int))
  have h2 := Int.emod_nonneg x (show (n : Int) ≠ 0 by omega)
  have h3 := Int.emod_lt_of_pos x (show (0 : Int) < n by omega)
  by_cases h : 0 ≤ x ∨ (n : Int) ∣ x
  · rw [if_pos h] at h1
    split <;> omega
  · rw [if_neg h] at h1
    have h4 : ((n : Int).natAbs : Int) = n := by omega
    split <;> omega
theorem wrap_fate (x : Int) (n : Nat) (hn : 1 ≤ n) (hn2 : n ≤ 1000000) (h : x.tmod (n : Int) < 0) : wrap64 (x.tmod (n : Int) + n) = (((x % (n : Int)).toNat : Nat) : Int) := by
  have e := tmod_as x n hn
  rw [if_pos h] at e
  have h2 := Int.emod_nonneg x (show (n : Int) ≠ 0 by omega)
  have h3 := Int.emod_lt_of_pos x (show (0 : Int) < n by omega)
  rw [← e]
  unfold wrap64
  omega
theorem fate_pos (x : Int) (n : Nat) (hn : 1 ≤ n) (h : 0 ≤ x.tmod (n : Int)) : x.tmod (n : Int) = (((x % (n : Int)).toNat : Nat) : Int) := by
  have e := tmod_as x n hn
  rw [if_neg (by omega)] at e
  have h2 := Int.emod_nonneg x (show (n : Int) ≠ 0 by omega)
  omega

theorem choose_any (A : Option Addr) (L c i n p q : Nat) (fa : Nat → Int) (w : World) (h : Ints w A L fa) (hi : i ≤ L) (hn : 1 ≤ n) (hn2 : n ≤ 1000000) (hb0 : w.heap[p]? = some (.cells #[.int .i64 i] 3 (0, 0))) (hq : w.cell? ⟨q, 0, none⟩ = some (.slice A L c)) :
    Calls Try.prog 67 #[.int .i64 n, .pointer (some ⟨p, 0, none⟩), .pointer (some ⟨q, 0, none⟩)] w fun e w' =>
      e = .returned (.int .i64 (choiceN fa L i n)) ∧ w'.heap[p]? = some (.cells #[.int .i64 (nextN L i)] 3 (0, 0)) ∧ w.grownBy w' (some p) := by
  have hp : w.cell? ⟨p, 0, none⟩ = some (.int .i64 i) := cell_of_row w p 0 _ _ _ hb0
  have hf : w.frozen? ⟨p, 0, none⟩ = false := by simp [World.frozen?, hb0]
  have HB := Lib.hid hb0
  clear hb0
  obtain ⟨h1, h2, h3⟩ := h
  by_cases hlt : i < L
  · obtain ⟨b, o, rfl, hc⟩ := h3 (by omega)
    have hci := hc i hlt
    have hb := h2 i hlt
    have hne : ((i : Int) == (L : Int)) = false := by simp; omega
    have C := Lib.hid (show choiceN fa L i n = (fa i % (n : Int)).toNat from if_pos hlt)
    have NX := Lib.hid (show nextN L i = i + 1 from if_pos hlt)
    obtain ⟨x, hx⟩ : ∃ x, x = fa i := ⟨_, rfl⟩
    rw [← hx] at hci hb
    have HX := Lib.hid hx
    clear h2 h3 hc hx
    go_enter Try.func67, Try.ntmps67
    go_wp2
    · rename_i hneg
      have hz : wrap64 (x.tmod (n : Int) + n) = ((choiceN fa L i n : Nat) : Int) := by
        rw [C.out, ← HX.out]; exact wrap_fate x n hn hn2 hneg
      rw [hz]
      go_ret
      exact ⟨rfl, by rw [NX.out]; exact heap_store w p 0 _ _ _ HB.out, grownBy_setCell' w p _⟩
    · rename_i hneg
      have hz : x.tmod (n : Int) = ((choiceN fa L i n : Nat) : Int) := by
        rw [C.out, ← HX.out]; exact fate_pos x n hn hneg
      rw [hz]
      go_ret
      exact ⟨rfl, by rw [NX.out]; exact heap_store w p 0 _ _ _ HB.out, grownBy_setCell' w p _⟩
  · have C := Lib.hid (show choiceN fa L i n = 0 from if_neg hlt)
    have NX := Lib.hid (show nextN L i = i from if_neg hlt)
    have hne : ((i : Int) == (L : Int)) = true := by simp; omega
    clear h2 h3
    go_enter Try.func67, Try.ntmps67
    go_wp2
    go_ret
    exact ⟨by rw [C.out]; rfl, by rw [NX.out]; exact HB.out, World.grownBy.refl w _⟩
end Go.Proofs.Ytmeijienfdefjaa
