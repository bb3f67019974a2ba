/- The document's Compare. -/
import Derived.Test.YtpmhefdalhohdaaDoorOCompare2
import Derived.Test.YtpmhefdalhohdaaDoorVRefMay
import Derived.Deep.MidRow
import Derived.Deep.RegionHeldLaw
namespace Go.Proofs.YtpmhefdalhohdaaDoor
open Go.RowKit
set_option linter.unusedVariables false

/-- Six cells behind one another. -/
theorem range6 {w : World} {x o : Nat} {c0 c1 c2 c3 c4 c5 : Value} (h0 : w.cell? ⟨x, o, none⟩ = some c0) (h1 : w.cell? ⟨x, o + 1, none⟩ = some c1) (h2 : w.cell? ⟨x, o + 2, none⟩ = some c2) (h3 : w.cell? ⟨x, o + 3, none⟩ = some c3) (h4 : w.cell? ⟨x, o + 4, none⟩ = some c4) (h5 : w.cell? ⟨x, o + 5, none⟩ = some c5) :
    w.rangeAt x o [c0, c1, c2, c3, c4, c5] := fun j v hv => by
  match j, hv with
  | 0, hv => simp at hv; subst hv; exact h0
  | 1, hv => simp at hv; subst hv; exact h1
  | 2, hv => simp at hv; subst hv; exact h2
  | 3, hv => simp at hv; subst hv; exact h3
  | 4, hv => simp at hv; subst hv; exact h4
  | 5, hv => simp at hv; subst hv; exact h5
  | j + 6, hv => simp at hv
/-- A struct of six cells as a load tells it. -/
theorem load6 {w : World} {x o : Nat} {c0 c1 c2 c3 c4 c5 : Value} (h0 : w.cell? ⟨x, o, none⟩ = some c0) (h1 : w.cell? ⟨x, o + 1, none⟩ = some c1) (h2 : w.cell? ⟨x, o + 2, none⟩ = some c2) (h3 : w.cell? ⟨x, o + 3, none⟩ = some c3) (h4 : w.cell? ⟨x, o + 4, none⟩ = some c4) (h5 : w.cell? ⟨x, o + 5, none⟩ = some c5) :
    (Instr.loadAt 25 (.pointer (some ⟨x, o, none⟩))).run Tryd.prog w = .ok (.agg #[c0, c1, c2, c3, c4, c5]) w :=
  run_loadAt_mid w x o 25 [c0, c1, c2, c3, c4, c5] _ (range6 h0 h1 h2 h3 h4 h5) Tryd.underlying25 rfl (by kernel_rfl)
set_option maxHeartbeats 1000000 in
theorem refNum_any (a b : Int) (w : World) : Calls Tryd.prog 30 #[.int .i64 a, .int .i64 b] w fun e w' => e = .returned (.int .i64 (cmpI a b)) ∧ w = w' := by
  rcases Int.lt_trichotomy a b with h | h | h
  · have HE := Lib.hid (cmpI_lt h)
    go_enter Tryd.func30, Tryd.ntmps30
    go_wp2
    go_ret
    exact ⟨ret_i (by rw [HE.out]), rfl⟩
  · have HE := Lib.hid (cmpI_eq h)
    have h1 : ¬ a < b := by omega
    have h2 : ¬ b < a := by omega
    clear h
    go_enter Tryd.func30, Tryd.ntmps30
    go_wp2
    go_ret
    exact ⟨ret_i (by rw [HE.out]), rfl⟩
  · have HE := Lib.hid (cmpI_gt h)
    have h1 : ¬ a < b := by omega
    go_enter Tryd.func30, Tryd.ntmps30
    go_wp2
    go_ret
    exact ⟨ret_i (by rw [HE.out]), rfl⟩
set_option maxHeartbeats 1000000 in
theorem refBytes_any (a b : ByteArray) (w : World) : Calls Tryd.prog 31 #[.string a, .string b] w fun e w' => e = .returned (.int .i64 (cmpS a.data.toList b.data.toList)) ∧ w = w' := by
  have q3 := less_s a b
  have q4 := eq_s a b
  have q5 := less_s b a
  obtain ⟨c, hc⟩ : ∃ c, c = cmpS a.data.toList b.data.toList := ⟨_, rfl⟩
  have hv := cmpS_vals a.data.toList b.data.toList
  rw [cmpS_anti a.data.toList b.data.toList] at q5
  rw [← hc] at q3 q4 q5 hv ⊢
  clear hc
  rcases hv with rfl | rfl | rfl
  all_goals
    try rw [show decide ((0 : Int) = 0) = true by decide] at q4
    try rw [show decide (-(-1 : Int) < 0) = false by decide] at q5
    try rw [show decide (-(0 : Int) < 0) = false by decide] at q5
    try rw [show decide (-(1 : Int) < 0) = true by decide] at q5
    try simp only [show decide ((-1 : Int) < 0) = true by decide, show decide ((-1 : Int) = 0) = false by decide, show decide ((0 : Int) < 0) = false by decide, show decide ((1 : Int) < 0) = false by decide, show decide ((1 : Int) = 0) = false by decide] at q3 q4
    go_enter Tryd.func31, Tryd.ntmps31
    go_wp2
    go_ret
    exact ⟨rfl, rfl⟩
set_option maxHeartbeats 2000000 in
set_option maxRecDepth 100000 in
theorem refRank_mk (k : Int) (b : Bool) (n : Int) (s : ByteArray) (m : Nat) (f : Nat → VT) (q : Nat) (g : Nat → ByteArray) (A : Option Addr) (c : Nat) (B : Option Addr) (d : Nat) (w : World) (hk : 0 ≤ k ∧ k ≤ 5) :
    Calls Tryd.prog 29 #[.agg #[.int .i64 k, .bool b, .int .i64 n, .string s, .slice A m c, .slice B q d]] w fun e w' => e = .returned (.int .i64 (rankV (.mk k b n s m f q g))) ∧ Below w.heap.size w w' := by
  rw [rank_mk]
  by_cases h0 : k = 0
  · subst h0
    rw [if_pos rfl]
    go_enter Tryd.func29, Tryd.ntmps29
    go_wp2_with fail
    go_ret
    exact ⟨rfl, (Below.refl _ _).alloc (Nat.le_refl _) _⟩
  · by_cases h1 : k = 1
    · subst h1
      rw [if_neg (by decide), if_pos rfl]
      cases b
      all_goals
        go_enter Tryd.func29, Tryd.ntmps29
        go_wp2_with fail
        go_ret
        exact ⟨rfl, (Below.refl _ _).alloc (Nat.le_refl _) _⟩
    · rw [if_neg h0, if_neg h1]
      have e0 : (k == 0) = false := by simpa using h0
      have e1 : (k == 1) = false := by simpa using h1
      obtain ⟨hk1, hk2⟩ := hk
      go_enter Tryd.func29, Tryd.ntmps29
      go_wp2_with fail
      go_ret
      exact ⟨rfl, (Below.refl _ _).alloc (Nat.le_refl _) _⟩
theorem refRank_any (t : VT) (cs : Array Value) (w : World) (h : InV w t cs) (hk : 0 ≤ t.k ∧ t.k ≤ 5) : Calls Tryd.prog 29 #[.agg cs] w fun e w' => e = .returned (.int .i64 (rankV t)) ∧ Below w.heap.size w w' := by
  rcases t with _ | ⟨k, b, n, s, m, f, q, g⟩
  · exact h.elim
  obtain ⟨A, c, B, d, rfl, _⟩ := h
  exact refRank_mk k b n s m f q g A c B d w hk
theorem below_drew {B : Nat} {a w : World} (h : Below B a w) : Below B a w.drew := h.drew
end Go.Proofs.YtpmhefdalhohdaaDoor
