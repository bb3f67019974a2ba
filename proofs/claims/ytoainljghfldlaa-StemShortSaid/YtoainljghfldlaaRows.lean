/-
  No cell of these rows narrows 'for every input' (looked for: loops, veiled, ifaces, maps, wideKeys, modest, calm, conditions, laid).
  DERIVED. THE GIVEN ROWS OF THIS SEAT. 3 by the template 'for every input the law returns true; each argument reads behind the call as it read before'; 0 by the template 'total and deterministic' (their statements: YtoainljghfldlaaTotals.lean).
  GIVEN WITH THE SEED: the statements are not yours to turn. If you find one false, say at which input.
  Laid BY PROGRAM, IN A SANDBOX (cutbox-rows.mjs): the forced cells as the released guide's own fill.sh prints them over the translation faa4a4ebc2c19de4… (all of the seat's roots in one cut). By AI agents, Wed Nov 11 2026. No macro, syntax, notation, axiom, sorry.
-/
import Derived.Test.YtoainljghfldlaaChecked
import GoSem.Claim
import GoSem.ClaimJoined
import GoSem.ClaimMapViews
import Derived.JoinedTies
import Derived.KernelRfl
namespace Go.Proofs.Ytoainljghfldlaa
/- THE CELL 'sum', in the pinned program and in every row, IS THE sha256 OF THE DUMP (.gsa) THAT YtoainljghfldlaaProg.lean LOADS. Nothing in Lean hashes anything: it is a label: what it is worth is what the hold of that sum in a sandbox is worth. -/
noncomputable def Try.pinned : Pinned := { name := "ytoainljghfldlaa", sum := "faa4a4ebc2c19de4f35666a5d8dad804c7b0b38b551bc49e5e4d826826eab933", checked := Try.checked }
namespace Rows
def none {H : Type} : Left H := { results := [], args := [] }

/-- 'waywiserlaw16.StemMeasures': WHATEVER THE INPUT: true; the input reads as it did. -/
def stemMeasuresSpec : ChangeSpec := { name := "stemMeasures", fn := fun _ => fun
  | [d] => { results := [.lit (.bool true)], args := [d] }
  | _ => none }
def stemMeasuresRow : OpenClaim := { program := "ytoainljghfldlaa", sum := "faa4a4ebc2c19de4f35666a5d8dad804c7b0b38b551bc49e5e4d826826eab933", func := "waywiser/waywiserlaw16.StemMeasures", spec := "stemMeasures", unfollowed := true, recurses := true, apart := false }
def StemMeasuresSaid : Prop := stemMeasuresRow.holds Try.pinned (OpenSpec.ofChange stemMeasuresSpec)

/-- ITS FALSE NEIGHBOUR: 'it returns false'. Refute it at one input. -/
def stemMeasuresWrong : ChangeSpec := { name := "stemMeasures", fn := fun _ => fun
  | [d] => { results := [.lit (.bool false)], args := [d] }
  | _ => none }
def StemMeasuresWrongFalsely : Prop := stemMeasuresRow.holds Try.pinned (OpenSpec.ofChange stemMeasuresWrong)

/-- 'waywiserlaw16.StemShort': WHATEVER THE INPUT: true; the input reads as it did. -/
def stemShortSpec : ChangeSpec := { name := "stemShort", fn := fun _ => fun
  | [d] => { results := [.lit (.bool true)], args := [d] }
  | _ => none }
def stemShortRow : OpenClaim := { program := "ytoainljghfldlaa", sum := "faa4a4ebc2c19de4f35666a5d8dad804c7b0b38b551bc49e5e4d826826eab933", func := "waywiser/waywiserlaw16.StemShort", spec := "stemShort", unfollowed := true, recurses := true, apart := false }
def StemShortSaid : Prop := stemShortRow.holds Try.pinned (OpenSpec.ofChange stemShortSpec)

/-- ITS FALSE NEIGHBOUR: 'it returns false'. Refute it at one input. -/
def stemShortWrong : ChangeSpec := { name := "stemShort", fn := fun _ => fun
  | [d] => { results := [.lit (.bool false)], args := [d] }
  | _ => none }
def StemShortWrongFalsely : Prop := stemShortRow.holds Try.pinned (OpenSpec.ofChange stemShortWrong)

/-- 'waywiserlaw16.StemPlural': WHATEVER THE INPUT: true; the input reads as it did. -/
def stemPluralSpec : ChangeSpec := { name := "stemPlural", fn := fun _ => fun
  | [d] => { results := [.lit (.bool true)], args := [d] }
  | _ => none }
def stemPluralRow : OpenClaim := { program := "ytoainljghfldlaa", sum := "faa4a4ebc2c19de4f35666a5d8dad804c7b0b38b551bc49e5e4d826826eab933", func := "waywiser/waywiserlaw16.StemPlural", spec := "stemPlural", unfollowed := true, recurses := true, apart := false }
def StemPluralSaid : Prop := stemPluralRow.holds Try.pinned (OpenSpec.ofChange stemPluralSpec)

/-- ITS FALSE NEIGHBOUR: 'it returns false'. Refute it at one input. -/
def stemPluralWrong : ChangeSpec := { name := "stemPlural", fn := fun _ => fun
  | [d] => { results := [.lit (.bool false)], args := [d] }
  | _ => none }
def StemPluralWrongFalsely : Prop := stemPluralRow.holds Try.pinned (OpenSpec.ofChange stemPluralWrong)

/- THE SECOND FORM. 'bulk': how many values and letters a reading holds, each counted each time it is reached (what is shared counts as often as it is met; a slice's spare places count too). A statement '..UptoSaid' is the law's where the arguments, and the package variables that the reading takes, are together of bulk at most 1048576: NARROWER than '..Said'. Prove '..Said' where nothing that the law and all that it calls make is longer than what came in: it says more and counts as full. Else prove '..UptoSaid'. A law counts once. -/
mutual
def uptoBulk {H : Type} : DataW H → Nat
  | .lit (.string bytes) => bytes.length + 1
  | .lit _ => 1
  | .nil => 1
  | .ptr d => uptoBulk d + 1
  | .slice elems spare => uptoBulkAll elems + uptoBulkAll spare + 1
  | .agg parts => uptoBulkAll parts + 1
  | .iface _ d => uptoBulk d + 1
  | .map entries => uptoBulkEntries entries + 1
  | .held _ => 1
def uptoBulkAll {H : Type} : List (DataW H) → Nat
  | [] => 0
  | d :: r => uptoBulk d + uptoBulkAll r
def uptoBulkEntries {H : Type} : List (Lit × DataW H) → Nat
  | [] => 0
  | x :: r => uptoBulkEntry x + uptoBulkEntries r
def uptoBulkEntry {H : Type} : Lit × DataW H → Nat
  | (.string bytes, d) => bytes.length + uptoBulk d + 1
  | (_, d) => uptoBulk d + 1
 end
def uptoSmall : (H : Type) → List (DataW H) → Bool := fun _ ds => decide (uptoBulkAll ds ≤ 1048576)
def OpenSpec.upto (s : _root_.Go.ChangeSpec) : _root_.Go.OpenSpec := { _root_.Go.OpenSpec.ofChange s with cond := some uptoSmall }

/-- 'waywiserlaw16.StemMeasures', WHERE WHAT IT READS IS OF BULK AT MOST 1048576: true; the input reads as it did. -/
def stemMeasuresUptoRow : OpenClaim := { program := "ytoainljghfldlaa", sum := "faa4a4ebc2c19de4f35666a5d8dad804c7b0b38b551bc49e5e4d826826eab933", func := "waywiser/waywiserlaw16.StemMeasures", spec := "stemMeasures", unfollowed := true, recurses := true, apart := false, narrowed := true }
def StemMeasuresUptoSaid : Prop := stemMeasuresUptoRow.holds Try.pinned (OpenSpec.upto stemMeasuresSpec)

/-- 'waywiserlaw16.StemShort', WHERE WHAT IT READS IS OF BULK AT MOST 1048576: true; the input reads as it did. -/
def stemShortUptoRow : OpenClaim := { program := "ytoainljghfldlaa", sum := "faa4a4ebc2c19de4f35666a5d8dad804c7b0b38b551bc49e5e4d826826eab933", func := "waywiser/waywiserlaw16.StemShort", spec := "stemShort", unfollowed := true, recurses := true, apart := false, narrowed := true }
def StemShortUptoSaid : Prop := stemShortUptoRow.holds Try.pinned (OpenSpec.upto stemShortSpec)

/-- 'waywiserlaw16.StemPlural', WHERE WHAT IT READS IS OF BULK AT MOST 1048576: true; the input reads as it did. -/
def stemPluralUptoRow : OpenClaim := { program := "ytoainljghfldlaa", sum := "faa4a4ebc2c19de4f35666a5d8dad804c7b0b38b551bc49e5e4d826826eab933", func := "waywiser/waywiserlaw16.StemPlural", spec := "stemPlural", unfollowed := true, recurses := true, apart := false, narrowed := true }
def StemPluralUptoSaid : Prop := stemPluralUptoRow.holds Try.pinned (OpenSpec.upto stemPluralSpec)

end Rows
end Go.Proofs.Ytoainljghfldlaa
