/-
  No cell of these rows narrows 'for every input' (looked for: loops, veiled, ifaces, maps, wideKeys, modest, calm, conditions, laid).
  DERIVED. THE GIVEN ROWS OF THIS SEAT. 7 by the template 'for every input the law returns true; each argument reads behind the call as it read before'; 0 by the template 'total and deterministic' (their statements: YtehmdokcdnlcdaaTotals.lean).
  GIVEN WITH THE SEED: the statements are not yours to turn. If you find one false, say at which input.
  Laid BY PROGRAM, IN A SANDBOX (cutbox-rows.mjs): the forced cells as the released guide's own fill.sh prints them over the translation 28ed94a480caae6d… (all of the seat's roots in one cut). By AI agents, Wed Nov 11 2026. No macro, syntax, notation, axiom, sorry.
-/
import Derived.Test.YtehmdokcdnlcdaaChecked
import GoSem.Claim
import GoSem.ClaimJoined
import GoSem.ClaimMapViews
import Derived.JoinedTies
import Derived.KernelRfl
namespace Go.Proofs.Ytehmdokcdnlcdaa
/- THE CELL 'sum', in the pinned program and in every row, IS THE sha256 OF THE DUMP (.gsa) THAT YtehmdokcdnlcdaaProg.lean LOADS. Nothing in Lean hashes anything: it is a label: what it is worth is what the hold of that sum in a sandbox is worth. -/
noncomputable def Try.pinned : Pinned := { name := "ytehmdokcdnlcdaa", sum := "28ed94a480caae6d80548580cac7da79beb9eac43be986bbd6b96837f107886e", checked := Try.checked }
namespace Rows
def none {H : Type} : Left H := { results := [], args := [] }

/-- 'waywiserlaw08.GeomEdges': WHATEVER THE INPUT: true; the input reads as it did. -/
def geomEdgesSpec : ChangeSpec := { name := "geomEdges", fn := fun _ => fun
  | [d] => { results := [.lit (.bool true)], args := [d] }
  | _ => none }
def geomEdgesRow : OpenClaim := { program := "ytehmdokcdnlcdaa", sum := "28ed94a480caae6d80548580cac7da79beb9eac43be986bbd6b96837f107886e", func := "waywiser/waywiserlaw08.GeomEdges", spec := "geomEdges", inPlace := ["math/bits.Sub64"], unfollowed := true, recurses := true, apart := false }
def GeomEdgesSaid : Prop := geomEdgesRow.holds Try.pinned (OpenSpec.ofChange geomEdgesSpec)

/-- ITS FALSE NEIGHBOUR: 'it returns false'. Refute it at one input. -/
def geomEdgesWrong : ChangeSpec := { name := "geomEdges", fn := fun _ => fun
  | [d] => { results := [.lit (.bool false)], args := [d] }
  | _ => none }
def GeomEdgesWrongFalsely : Prop := geomEdgesRow.holds Try.pinned (OpenSpec.ofChange geomEdgesWrong)

/-- 'waywiserlaw08.GeomRings': WHATEVER THE INPUT: true; the input reads as it did. -/
def geomRingsSpec : ChangeSpec := { name := "geomRings", fn := fun _ => fun
  | [d1, d2] => { results := [.lit (.bool true)], args := [d1, d2] }
  | _ => none }
def geomRingsRow : OpenClaim := { program := "ytehmdokcdnlcdaa", sum := "28ed94a480caae6d80548580cac7da79beb9eac43be986bbd6b96837f107886e", func := "waywiser/waywiserlaw08.GeomRings", spec := "geomRings", inPlace := ["math/bits.Sub64"], unfollowed := true, recurses := true, apart := false }
def GeomRingsSaid : Prop := geomRingsRow.holds Try.pinned (OpenSpec.ofChange geomRingsSpec)

/-- ITS FALSE NEIGHBOUR: 'it returns false'. Refute it at one input. -/
def geomRingsWrong : ChangeSpec := { name := "geomRings", fn := fun _ => fun
  | [d1, d2] => { results := [.lit (.bool false)], args := [d1, d2] }
  | _ => none }
def GeomRingsWrongFalsely : Prop := geomRingsRow.holds Try.pinned (OpenSpec.ofChange geomRingsWrong)

/-- 'waywiserlaw08.GeomRects': WHATEVER THE INPUT: true; the input reads as it did. -/
def geomRectsSpec : ChangeSpec := { name := "geomRects", fn := fun _ => fun
  | [d1, d2, d3] => { results := [.lit (.bool true)], args := [d1, d2, d3] }
  | _ => none }
def geomRectsRow : OpenClaim := { program := "ytehmdokcdnlcdaa", sum := "28ed94a480caae6d80548580cac7da79beb9eac43be986bbd6b96837f107886e", func := "waywiser/waywiserlaw08.GeomRects", spec := "geomRects", inPlace := ["math/bits.Add64", "math/bits.Sub64"], unfollowed := true, recurses := true, apart := false }
def GeomRectsSaid : Prop := geomRectsRow.holds Try.pinned (OpenSpec.ofChange geomRectsSpec)

/-- ITS FALSE NEIGHBOUR: 'it returns false'. Refute it at one input. -/
def geomRectsWrong : ChangeSpec := { name := "geomRects", fn := fun _ => fun
  | [d1, d2, d3] => { results := [.lit (.bool false)], args := [d1, d2, d3] }
  | _ => none }
def GeomRectsWrongFalsely : Prop := geomRectsRow.holds Try.pinned (OpenSpec.ofChange geomRectsWrong)

/-- 'waywiserlaw08.GeomTurns': WHATEVER THE INPUT: true; the input reads as it did. -/
def geomTurnsSpec : ChangeSpec := { name := "geomTurns", fn := fun _ => fun
  | [d] => { results := [.lit (.bool true)], args := [d] }
  | _ => none }
def geomTurnsRow : OpenClaim := { program := "ytehmdokcdnlcdaa", sum := "28ed94a480caae6d80548580cac7da79beb9eac43be986bbd6b96837f107886e", func := "waywiser/waywiserlaw08.GeomTurns", spec := "geomTurns", inPlace := ["math/bits.Sub64"], unfollowed := true, recurses := true, apart := false }
def GeomTurnsSaid : Prop := geomTurnsRow.holds Try.pinned (OpenSpec.ofChange geomTurnsSpec)

/-- ITS FALSE NEIGHBOUR: 'it returns false'. Refute it at one input. -/
def geomTurnsWrong : ChangeSpec := { name := "geomTurns", fn := fun _ => fun
  | [d] => { results := [.lit (.bool false)], args := [d] }
  | _ => none }
def GeomTurnsWrongFalsely : Prop := geomTurnsRow.holds Try.pinned (OpenSpec.ofChange geomTurnsWrong)

/-- 'waywiserlaw08.GeomNear': WHATEVER THE INPUT: true; the input reads as it did. -/
def geomNearSpec : ChangeSpec := { name := "geomNear", fn := fun _ => fun
  | [d1, d2, d3] => { results := [.lit (.bool true)], args := [d1, d2, d3] }
  | _ => none }
def geomNearRow : OpenClaim := { program := "ytehmdokcdnlcdaa", sum := "28ed94a480caae6d80548580cac7da79beb9eac43be986bbd6b96837f107886e", func := "waywiser/waywiserlaw08.GeomNear", spec := "geomNear", inPlace := ["math/bits.Sub64", "math/bits.Add64"], unfollowed := true, recurses := true, apart := false }
def GeomNearSaid : Prop := geomNearRow.holds Try.pinned (OpenSpec.ofChange geomNearSpec)

/-- ITS FALSE NEIGHBOUR: 'it returns false'. Refute it at one input. -/
def geomNearWrong : ChangeSpec := { name := "geomNear", fn := fun _ => fun
  | [d1, d2, d3] => { results := [.lit (.bool false)], args := [d1, d2, d3] }
  | _ => none }
def GeomNearWrongFalsely : Prop := geomNearRow.holds Try.pinned (OpenSpec.ofChange geomNearWrong)

/-- 'waywiserlaw08.GeomShifts': WHATEVER THE INPUT: true; the input reads as it did. -/
def geomShiftsSpec : ChangeSpec := { name := "geomShifts", fn := fun _ => fun
  | [d1, d2, d3] => { results := [.lit (.bool true)], args := [d1, d2, d3] }
  | _ => none }
def geomShiftsRow : OpenClaim := { program := "ytehmdokcdnlcdaa", sum := "28ed94a480caae6d80548580cac7da79beb9eac43be986bbd6b96837f107886e", func := "waywiser/waywiserlaw08.GeomShifts", spec := "geomShifts", inPlace := ["math/bits.Sub64"], unfollowed := true, recurses := true, apart := false }
def GeomShiftsSaid : Prop := geomShiftsRow.holds Try.pinned (OpenSpec.ofChange geomShiftsSpec)

/-- ITS FALSE NEIGHBOUR: 'it returns false'. Refute it at one input. -/
def geomShiftsWrong : ChangeSpec := { name := "geomShifts", fn := fun _ => fun
  | [d1, d2, d3] => { results := [.lit (.bool false)], args := [d1, d2, d3] }
  | _ => none }
def GeomShiftsWrongFalsely : Prop := geomShiftsRow.holds Try.pinned (OpenSpec.ofChange geomShiftsWrong)

/-- 'waywiserlaw08.GeomJoins': WHATEVER THE INPUT: true; the input reads as it did. -/
def geomJoinsSpec : ChangeSpec := { name := "geomJoins", fn := fun _ => fun
  | [d1, d2] => { results := [.lit (.bool true)], args := [d1, d2] }
  | _ => none }
def geomJoinsRow : OpenClaim := { program := "ytehmdokcdnlcdaa", sum := "28ed94a480caae6d80548580cac7da79beb9eac43be986bbd6b96837f107886e", func := "waywiser/waywiserlaw08.GeomJoins", spec := "geomJoins", inPlace := ["math/bits.Sub64"], unfollowed := true, recurses := true, apart := false }
def GeomJoinsSaid : Prop := geomJoinsRow.holds Try.pinned (OpenSpec.ofChange geomJoinsSpec)

/-- ITS FALSE NEIGHBOUR: 'it returns false'. Refute it at one input. -/
def geomJoinsWrong : ChangeSpec := { name := "geomJoins", fn := fun _ => fun
  | [d1, d2] => { results := [.lit (.bool false)], args := [d1, d2] }
  | _ => none }
def GeomJoinsWrongFalsely : Prop := geomJoinsRow.holds Try.pinned (OpenSpec.ofChange geomJoinsWrong)

/- THE SECOND FORM. 'bulk': how many values and letters a reading holds, each counted each time it is reached (what is shared counts as often as it is met; a slice's spare places count too). A statement '..UptoSaid' is the law's where the arguments, and the package variables that the reading takes, are together of bulk at most 1048576: NARROWER than '..Said'. Prove '..Said' where nothing that the law and all that it calls make is longer than what came in: it says more and counts as full. Else prove '..UptoSaid'. A law counts once. -/
mutual
def uptoBulk {H : Type} : DataW H → Nat
  | .lit (.string bytes) => bytes.length + 1
  | .lit _ => 1
  | .nil => 1
  | .ptr d => uptoBulk d + 1
  | .slice elems spare => uptoBulkAll elems + uptoBulkAll spare + 1
  | .agg parts => uptoBulkAll parts + 1
  | .iface _ d => uptoBulk d + 1
  | .map entries => uptoBulkEntries entries + 1
  | .held _ => 1
def uptoBulkAll {H : Type} : List (DataW H) → Nat
  | [] => 0
  | d :: r => uptoBulk d + uptoBulkAll r
def uptoBulkEntries {H : Type} : List (Lit × DataW H) → Nat
  | [] => 0
  | x :: r => uptoBulkEntry x + uptoBulkEntries r
def uptoBulkEntry {H : Type} : Lit × DataW H → Nat
  | (.string bytes, d) => bytes.length + uptoBulk d + 1
  | (_, d) => uptoBulk d + 1
 end
def uptoSmall : (H : Type) → List (DataW H) → Bool := fun _ ds => decide (uptoBulkAll ds ≤ 1048576)
def OpenSpec.upto (s : _root_.Go.ChangeSpec) : _root_.Go.OpenSpec := { _root_.Go.OpenSpec.ofChange s with cond := some uptoSmall }

/-- 'waywiserlaw08.GeomEdges', WHERE WHAT IT READS IS OF BULK AT MOST 1048576: true; the input reads as it did. -/
def geomEdgesUptoRow : OpenClaim := { program := "ytehmdokcdnlcdaa", sum := "28ed94a480caae6d80548580cac7da79beb9eac43be986bbd6b96837f107886e", func := "waywiser/waywiserlaw08.GeomEdges", spec := "geomEdges", inPlace := ["math/bits.Sub64"], unfollowed := true, recurses := true, apart := false, narrowed := true }
def GeomEdgesUptoSaid : Prop := geomEdgesUptoRow.holds Try.pinned (OpenSpec.upto geomEdgesSpec)

/-- 'waywiserlaw08.GeomRings', WHERE WHAT IT READS IS OF BULK AT MOST 1048576: true; the input reads as it did. -/
def geomRingsUptoRow : OpenClaim := { program := "ytehmdokcdnlcdaa", sum := "28ed94a480caae6d80548580cac7da79beb9eac43be986bbd6b96837f107886e", func := "waywiser/waywiserlaw08.GeomRings", spec := "geomRings", inPlace := ["math/bits.Sub64"], unfollowed := true, recurses := true, apart := false, narrowed := true }
def GeomRingsUptoSaid : Prop := geomRingsUptoRow.holds Try.pinned (OpenSpec.upto geomRingsSpec)

/-- 'waywiserlaw08.GeomRects', WHERE WHAT IT READS IS OF BULK AT MOST 1048576: true; the input reads as it did. -/
def geomRectsUptoRow : OpenClaim := { program := "ytehmdokcdnlcdaa", sum := "28ed94a480caae6d80548580cac7da79beb9eac43be986bbd6b96837f107886e", func := "waywiser/waywiserlaw08.GeomRects", spec := "geomRects", inPlace := ["math/bits.Add64", "math/bits.Sub64"], unfollowed := true, recurses := true, apart := false, narrowed := true }
def GeomRectsUptoSaid : Prop := geomRectsUptoRow.holds Try.pinned (OpenSpec.upto geomRectsSpec)

/-- 'waywiserlaw08.GeomTurns', WHERE WHAT IT READS IS OF BULK AT MOST 1048576: true; the input reads as it did. -/
def geomTurnsUptoRow : OpenClaim := { program := "ytehmdokcdnlcdaa", sum := "28ed94a480caae6d80548580cac7da79beb9eac43be986bbd6b96837f107886e", func := "waywiser/waywiserlaw08.GeomTurns", spec := "geomTurns", inPlace := ["math/bits.Sub64"], unfollowed := true, recurses := true, apart := false, narrowed := true }
def GeomTurnsUptoSaid : Prop := geomTurnsUptoRow.holds Try.pinned (OpenSpec.upto geomTurnsSpec)

/-- 'waywiserlaw08.GeomNear', WHERE WHAT IT READS IS OF BULK AT MOST 1048576: true; the input reads as it did. -/
def geomNearUptoRow : OpenClaim := { program := "ytehmdokcdnlcdaa", sum := "28ed94a480caae6d80548580cac7da79beb9eac43be986bbd6b96837f107886e", func := "waywiser/waywiserlaw08.GeomNear", spec := "geomNear", inPlace := ["math/bits.Sub64", "math/bits.Add64"], unfollowed := true, recurses := true, apart := false, narrowed := true }
def GeomNearUptoSaid : Prop := geomNearUptoRow.holds Try.pinned (OpenSpec.upto geomNearSpec)

/-- 'waywiserlaw08.GeomShifts', WHERE WHAT IT READS IS OF BULK AT MOST 1048576: true; the input reads as it did. -/
def geomShiftsUptoRow : OpenClaim := { program := "ytehmdokcdnlcdaa", sum := "28ed94a480caae6d80548580cac7da79beb9eac43be986bbd6b96837f107886e", func := "waywiser/waywiserlaw08.GeomShifts", spec := "geomShifts", inPlace := ["math/bits.Sub64"], unfollowed := true, recurses := true, apart := false, narrowed := true }
def GeomShiftsUptoSaid : Prop := geomShiftsUptoRow.holds Try.pinned (OpenSpec.upto geomShiftsSpec)

/-- 'waywiserlaw08.GeomJoins', WHERE WHAT IT READS IS OF BULK AT MOST 1048576: true; the input reads as it did. -/
def geomJoinsUptoRow : OpenClaim := { program := "ytehmdokcdnlcdaa", sum := "28ed94a480caae6d80548580cac7da79beb9eac43be986bbd6b96837f107886e", func := "waywiser/waywiserlaw08.GeomJoins", spec := "geomJoins", inPlace := ["math/bits.Sub64"], unfollowed := true, recurses := true, apart := false, narrowed := true }
def GeomJoinsUptoSaid : Prop := geomJoinsUptoRow.holds Try.pinned (OpenSpec.upto geomJoinsSpec)

end Rows
end Go.Proofs.Ytehmdokcdnlcdaa
