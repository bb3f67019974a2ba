/- word: within, utf8's ValidRune and RuneLen: the walks. -/
import Derived.Test.YtoghdllppecblaaDoorQPlain
import Derived.Test.YtoghdllppecblaaDoorMMem
import Derived.Deep.LoopGhost
namespace Go.Proofs.YtoghdllppecblaaDoor
open Go.RowKit
set_option linter.unusedVariables false

theorem ret_b {a b : Bool} (h : a = b) : Ending.returned (.bool a) = .returned (.bool b) := by rw [h]
theorem ret_i {k : IntKind} {a b : Int} (h : a = b) : Ending.returned (.int k a) = .returned (.int k b) := by rw [h]
theorem ret_s {a b : ByteArray} (h : a = b) : Ending.returned (.string a) = .returned (.string b) := by rw [h]
theorem kp' {a w : World} {b o : Nat} {v : Value} {B : Nat} (hb : Below B a w) (hlt : b < B) (h : a.cell? ⟨b, o, none⟩ = some v) : w.cell? ⟨b, o, none⟩ = some v := (hb.cell (p := ⟨b, o, none⟩) hlt).trans h
theorem cell_lt' {w : World} {b o : Nat} {v : Value} (h : w.cell? ⟨b, o, none⟩ = some v) : b < w.heap.size := by
  rcases Nat.lt_or_ge b w.heap.size with hlt | hge
  · exact hlt
  · rw [World.cell?, Array.getElem?_eq_none hge] at h
    cases h
theorem below2' {w w1 w2 : World} (a : Below w.heap.size w w1) (b : Below w1.heap.size w1 w2) : Below w.heap.size w w2 := a.trans (b.mono a.size)
/-- within: is a sign one of those from one to another? -/
def wi (c f l : Int) : Bool := decide (f ≤ c) && decide (c ≤ l)
theorem wi_1 {c f l : Int} (h1 : f ≤ c) (h2 : c ≤ l) : wi c f l = true := by unfold wi; rw [decide_eq_true h1, decide_eq_true h2]; rfl
theorem wi_2 {c f l : Int} (h1 : ¬ f ≤ c) : wi c f l = false := by unfold wi; rw [decide_eq_false h1]; rfl
theorem wi_3 {c f l : Int} (h2 : ¬ c ≤ l) : wi c f l = false := by unfold wi; rw [decide_eq_false h2]; simp
theorem within_any (c f l : Int) (w : World) : Calls Tryd.prog 16 #[.int .i32 c, .int .i32 f, .int .i32 l] w fun e w' => e = .returned (.bool (wi c f l)) ∧ w' = w := by
  by_cases h1 : f ≤ c
  · by_cases h2 : c ≤ l
    · have HE := Lib.hid (wi_1 h1 h2)
      go_enter Tryd.func16, Tryd.ntmps16
      go_wp2
      go_ret
      exact ⟨ret_b HE.out.symm, rfl⟩
    · have HE := Lib.hid (wi_3 (f := f) h2)
      go_enter Tryd.func16, Tryd.ntmps16
      go_wp2
      go_ret
      exact ⟨ret_b HE.out.symm, rfl⟩
  · have HE := Lib.hid (wi_2 (l := l) h1)
    go_enter Tryd.func16, Tryd.ntmps16
    go_wp2
    go_ret
    exact ⟨ret_b HE.out.symm, rfl⟩

/-- unicode/utf8.ValidRune. -/
theorem vb_1 {c : Int} (h1 : 0 ≤ c) (h2 : c < 55296) : validB c = true := by unfold validB; rw [decide_eq_true (And.intro h1 h2)]; rfl
theorem vb_2 {c : Int} (h1 : 57343 < c) (h2 : c ≤ 1114111) : validB c = true := by unfold validB; rw [decide_eq_true (And.intro h1 h2)]; simp
theorem vb_3 {c : Int} (h1 : ¬ (0 ≤ c ∧ c < 55296)) (h2 : ¬ (57343 < c ∧ c ≤ 1114111)) : validB c = false := by unfold validB; rw [decide_eq_false h1, decide_eq_false h2]; rfl
set_option maxHeartbeats 1000000 in
theorem valid_any (c : Int) (w : World) : Calls Tryd.prog 18 #[.int .i32 c] w fun e w' => e = .returned (.bool (validB c)) ∧ w' = w := by
  by_cases h1 : 0 ≤ c <;> by_cases h2 : c < 55296 <;> by_cases h3 : 57343 < c <;> by_cases h4 : c ≤ 1114111
  all_goals first
    | (exfalso; omega)
    | (have HE := Lib.hid (vb_1 h1 h2)
       go_enter Tryd.func18, Tryd.ntmps18
       go_wp2
       go_ret
       exact ⟨ret_b HE.out.symm, rfl⟩)
    | (have HE := Lib.hid (vb_2 h3 h4)
       go_enter Tryd.func18, Tryd.ntmps18
       go_wp2
       go_ret
       exact ⟨ret_b HE.out.symm, rfl⟩)
    | (have HE := Lib.hid (vb_3 (c := c) (by omega) (by omega))
       go_enter Tryd.func18, Tryd.ntmps18
       go_wp2
       go_ret
       exact ⟨ret_b HE.out.symm, rfl⟩)
/-- How many bytes a sign has (utf8.RuneLen): only of those that a text can have. -/
def rlN (c : Nat) : Nat := if c ≤ 127 then 1 else if c ≤ 2047 then 2 else if c ≤ 65535 then 3 else 4
set_option maxHeartbeats 1000000 in
theorem runeLen_any (c : Nat) (hv : c < 55296 ∨ (57343 < c ∧ c ≤ 1114111)) (w : World) : Calls Tryd.prog 27 #[.int .i32 (c : Int)] w fun e w' => e = .returned (.int .i64 (rlN c : Nat)) ∧ w' = w := by
  have h0 : ¬ (c : Int) < 0 := by omega
  by_cases h1 : (c : Int) ≤ 127
  · have HE := Lib.hid (show rlN c = 1 by unfold rlN; rw [if_pos (by omega)])
    clear hv
    go_enter Tryd.func27, Tryd.ntmps27
    go_wp2
    go_ret
    exact ⟨by rw [HE.out]; rfl, rfl⟩
  · by_cases h2 : (c : Int) ≤ 2047
    · have HE := Lib.hid (show rlN c = 2 by unfold rlN; rw [if_neg (by omega), if_pos (by omega)])
      clear hv
      go_enter Tryd.func27, Tryd.ntmps27
      go_wp2
      go_ret
      exact ⟨by rw [HE.out]; rfl, rfl⟩
    · by_cases h3 : (55296 : Int) ≤ c
      · have h4 : ¬ (c : Int) ≤ 57343 := by omega
        by_cases h5 : (c : Int) ≤ 65535
        · have HE := Lib.hid (show rlN c = 3 by unfold rlN; rw [if_neg (by omega), if_neg (by omega), if_pos (by omega)])
          clear hv
          go_enter Tryd.func27, Tryd.ntmps27
          go_wp2
          go_ret
          exact ⟨by rw [HE.out]; rfl, rfl⟩
        · have h6 : (c : Int) ≤ 1114111 := by omega
          have HE := Lib.hid (show rlN c = 4 by unfold rlN; rw [if_neg (by omega), if_neg (by omega), if_neg (by omega)])
          clear hv
          go_enter Tryd.func27, Tryd.ntmps27
          go_wp2
          go_ret
          exact ⟨by rw [HE.out]; rfl, rfl⟩
      · have h5 : (c : Int) ≤ 65535 := by omega
        have HE := Lib.hid (show rlN c = 3 by unfold rlN; rw [if_neg (by omega), if_neg (by omega), if_pos (by omega)])
        clear hv
        go_enter Tryd.func27, Tryd.ntmps27
        go_wp2
        go_ret
        exact ⟨by rw [HE.out]; rfl, rfl⟩
end Go.Proofs.YtoghdllppecblaaDoor
