/- Points as rows of two cells. -/
import Derived.Test.YtehmdokcdnlcdaaGMay
import Derived.Test.YtehmdokcdnlcdaaMPair
namespace Go.Proofs.Ytehmdokcdnlcdaa
open Go.RowKit
set_option linter.unusedVariables false

def coP (F : Nat → Pt) (j : Nat) : Value := if j % 2 = 0 then .int .i64 (F (j / 2)).x else .int .i64 (F (j / 2)).y
theorem coP_one (F : Nat → Pt) (j : Nat) : (coP F j).oneCell' = true := by unfold coP; split <;> rfl
theorem coP_even (F : Nat → Pt) (i : Nat) : coP F (i * 2) = .int .i64 (F i).x := by unfold coP; rw [if_pos (by omega), Nat.mul_div_cancel _ (by omega)]
theorem coP_odd (F : Nat → Pt) (i : Nat) : coP F (i * 2 + 1) = .int .i64 (F i).y := by unfold coP; rw [if_neg (by omega), show (i * 2 + 1) / 2 = i by omega]
theorem Pts.cells2 {W : World} {A : Option Addr} {n : Nat} {F : Nat → Pt} (h : Pts W A n F) : Cells2 W A n (coP F) :=
  ⟨h.1, fun hn => by
    obtain ⟨b, o, rfl, hc⟩ := h.2 hn
    refine ⟨b, o, rfl, fun j hj => ?_⟩
    obtain ⟨c0, c1⟩ := hc (j / 2) (by omega)
    unfold coP
    split
    · rw [← c0]; congr 2; omega
    · rw [← c1]; congr 2; omega⟩
theorem Cells2.pts {W : World} {A : Option Addr} {n : Nat} {F : Nat → Pt} (h : Cells2 W A n (coP F)) : Pts W A n F :=
  ⟨h.1, fun hn => by
    obtain ⟨b, o, rfl, hc⟩ := h.2 hn
    refine ⟨b, o, rfl, fun i hi => ⟨?_, ?_⟩⟩
    · rw [hc (i * 2) (by omega), coP_even]
    · rw [Nat.add_assoc, hc (i * 2 + 1) (by omega), coP_odd]⟩
def catP (F : Nat → Pt) (n : Nat) (G : Nat → Pt) (i : Nat) : Pt := if i < n then F i else G (i - n)
theorem cat_co (F : Nat → Pt) (n : Nat) (G : Nat → Pt) (j : Nat) : catC (coP F) n (coP G) j = coP (catP F n G) j := by
  unfold catC coP catP
  by_cases h : j < n * 2
  · rw [if_pos h, if_pos (show j / 2 < n by omega)]
  · rw [if_neg h, if_neg (show ¬ j / 2 < n by omega), show (j - n * 2) % 2 = j % 2 by omega, show (j - n * 2) / 2 = j / 2 - n by omega]
theorem push_co (F : Nat → Pt) (n : Nat) (q : Pt) (hq : q = F n) (j : Nat) (hj : j < (n + 1) * 2) : pushC (coP F) n (.int .i64 q.x) (.int .i64 q.y) j = coP F j := by
  unfold pushC
  split
  · rfl
  · split
    · rename_i h; subst h; rw [coP_even, hq]
    · obtain rfl : j = n * 2 + 1 := by omega
      rw [coP_odd, hq]
theorem ptInfo : (Try.prog.info? 23).map (fun i => (i.zero, i.size, i.bytes)) = some (some (.agg #[.int .i64 0, .int .i64 0]), 2, 16) := by kernel_rfl
abbrev OwnP (w : World) (base : Nat) (A : Option Addr) (n c : Nat) (F : Nat → Pt) : Prop := OwnC 23 w base A n c (coP F)
theorem OwnP.pts {w : World} {base : Nat} {A : Option Addr} {n c : Nat} {F : Nat → Pt} (h : OwnP w base A n c F) : Pts w A n F := (OwnC.cells h).pts
end Go.Proofs.Ytehmdokcdnlcdaa
