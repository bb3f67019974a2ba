/-
  No cell of these rows narrows 'for every input' (looked for: loops, veiled, ifaces, maps, wideKeys, modest, calm, conditions, laid).
  DERIVED. THE GIVEN ROWS OF THIS SEAT. 5 by the template 'for every input the law returns true; each argument reads behind the call as it read before'; 0 by the template 'total and deterministic' (their statements: YtcacfidejhmieaaTotals.lean).
  GIVEN WITH THE SEED: the statements are not yours to turn. If you find one false, say at which input.
  Laid BY PROGRAM, IN A SANDBOX (cutbox-rows.mjs): the forced cells as the released guide's own fill.sh prints them over the translation 92afe635ddd41a21… (all of the seat's roots in one cut). By AI agents, Wed Nov 11 2026. No macro, syntax, notation, axiom, sorry.
-/
import Derived.Test.YtcacfidejhmieaaChecked
import GoSem.Claim
import GoSem.ClaimJoined
import GoSem.ClaimMapViews
import Derived.JoinedTies
import Derived.KernelRfl
namespace Go.Proofs.Ytcacfidejhmieaa
/- THE CELL 'sum', in the pinned program and in every row, IS THE sha256 OF THE DUMP (.gsa) THAT YtcacfidejhmieaaProg.lean LOADS. Nothing in Lean hashes anything: it is a label: what it is worth is what the hold of that sum in a sandbox is worth. -/
noncomputable def Try.pinned : Pinned := { name := "ytcacfidejhmieaa", sum := "92afe635ddd41a21e0a9a4f2ab68b6fcff0508c5155aa72ffea053ddbd623001", checked := Try.checked }
namespace Rows
def none {H : Type} : Left H := { results := [], args := [] }

/-- 'waywiserlaw17.ScoreLogs': WHATEVER THE INPUT: true; the input reads as it did. -/
def scoreLogsSpec : ChangeSpec := { name := "scoreLogs", fn := fun _ => fun
  | [d] => { results := [.lit (.bool true)], args := [d] }
  | _ => none }
def scoreLogsRow : OpenClaim := { program := "ytcacfidejhmieaa", sum := "92afe635ddd41a21e0a9a4f2ab68b6fcff0508c5155aa72ffea053ddbd623001", func := "waywiser/waywiserlaw17.ScoreLogs", spec := "scoreLogs", unfollowed := true, recurses := true, apart := false }
def ScoreLogsSaid : Prop := scoreLogsRow.holds Try.pinned (OpenSpec.ofChange scoreLogsSpec)

/-- ITS FALSE NEIGHBOUR: 'it returns false'. Refute it at one input. -/
def scoreLogsWrong : ChangeSpec := { name := "scoreLogs", fn := fun _ => fun
  | [d] => { results := [.lit (.bool false)], args := [d] }
  | _ => none }
def ScoreLogsWrongFalsely : Prop := scoreLogsRow.holds Try.pinned (OpenSpec.ofChange scoreLogsWrong)

/-- 'waywiserlaw17.ScoreTells': WHATEVER THE INPUT: true; the input reads as it did. -/
def scoreTellsSpec : ChangeSpec := { name := "scoreTells", fn := fun _ => fun
  | [d1, d2, d3] => { results := [.lit (.bool true)], args := [d1, d2, d3] }
  | _ => none }
def scoreTellsRow : OpenClaim := { program := "ytcacfidejhmieaa", sum := "92afe635ddd41a21e0a9a4f2ab68b6fcff0508c5155aa72ffea053ddbd623001", func := "waywiser/waywiserlaw17.ScoreTells", spec := "scoreTells", unfollowed := true, recurses := true, apart := false }
def ScoreTellsSaid : Prop := scoreTellsRow.holds Try.pinned (OpenSpec.ofChange scoreTellsSpec)

/-- ITS FALSE NEIGHBOUR: 'it returns false'. Refute it at one input. -/
def scoreTellsWrong : ChangeSpec := { name := "scoreTells", fn := fun _ => fun
  | [d1, d2, d3] => { results := [.lit (.bool false)], args := [d1, d2, d3] }
  | _ => none }
def ScoreTellsWrongFalsely : Prop := scoreTellsRow.holds Try.pinned (OpenSpec.ofChange scoreTellsWrong)

/-- 'waywiserlaw17.ScoreGrows': WHATEVER THE INPUT: true; the input reads as it did. -/
def scoreGrowsSpec : ChangeSpec := { name := "scoreGrows", fn := fun _ => fun
  | [d1, d2] => { results := [.lit (.bool true)], args := [d1, d2] }
  | _ => none }
def scoreGrowsRow : OpenClaim := { program := "ytcacfidejhmieaa", sum := "92afe635ddd41a21e0a9a4f2ab68b6fcff0508c5155aa72ffea053ddbd623001", func := "waywiser/waywiserlaw17.ScoreGrows", spec := "scoreGrows", unfollowed := true, recurses := true, apart := false }
def ScoreGrowsSaid : Prop := scoreGrowsRow.holds Try.pinned (OpenSpec.ofChange scoreGrowsSpec)

/-- ITS FALSE NEIGHBOUR: 'it returns false'. Refute it at one input. -/
def scoreGrowsWrong : ChangeSpec := { name := "scoreGrows", fn := fun _ => fun
  | [d1, d2] => { results := [.lit (.bool false)], args := [d1, d2] }
  | _ => none }
def ScoreGrowsWrongFalsely : Prop := scoreGrowsRow.holds Try.pinned (OpenSpec.ofChange scoreGrowsWrong)

/-- 'waywiserlaw17.ScoreBounds': WHATEVER THE INPUT: true; the input reads as it did. -/
def scoreBoundsSpec : ChangeSpec := { name := "scoreBounds", fn := fun _ => fun
  | [d1, d2, d3] => { results := [.lit (.bool true)], args := [d1, d2, d3] }
  | _ => none }
def scoreBoundsRow : OpenClaim := { program := "ytcacfidejhmieaa", sum := "92afe635ddd41a21e0a9a4f2ab68b6fcff0508c5155aa72ffea053ddbd623001", func := "waywiser/waywiserlaw17.ScoreBounds", spec := "scoreBounds", unfollowed := true, recurses := true, apart := false }
def ScoreBoundsSaid : Prop := scoreBoundsRow.holds Try.pinned (OpenSpec.ofChange scoreBoundsSpec)

/-- ITS FALSE NEIGHBOUR: 'it returns false'. Refute it at one input. -/
def scoreBoundsWrong : ChangeSpec := { name := "scoreBounds", fn := fun _ => fun
  | [d1, d2, d3] => { results := [.lit (.bool false)], args := [d1, d2, d3] }
  | _ => none }
def ScoreBoundsWrongFalsely : Prop := scoreBoundsRow.holds Try.pinned (OpenSpec.ofChange scoreBoundsWrong)

/-- 'waywiserlaw17.ScoreAlways': WHATEVER THE INPUT: true; the input reads as it did. -/
def scoreAlwaysSpec : ChangeSpec := { name := "scoreAlways", fn := fun _ => fun
  | [d1, d2, d3] => { results := [.lit (.bool true)], args := [d1, d2, d3] }
  | _ => none }
def scoreAlwaysRow : OpenClaim := { program := "ytcacfidejhmieaa", sum := "92afe635ddd41a21e0a9a4f2ab68b6fcff0508c5155aa72ffea053ddbd623001", func := "waywiser/waywiserlaw17.ScoreAlways", spec := "scoreAlways", unfollowed := true, recurses := true, apart := false }
def ScoreAlwaysSaid : Prop := scoreAlwaysRow.holds Try.pinned (OpenSpec.ofChange scoreAlwaysSpec)

/-- ITS FALSE NEIGHBOUR: 'it returns false'. Refute it at one input. -/
def scoreAlwaysWrong : ChangeSpec := { name := "scoreAlways", fn := fun _ => fun
  | [d1, d2, d3] => { results := [.lit (.bool false)], args := [d1, d2, d3] }
  | _ => none }
def ScoreAlwaysWrongFalsely : Prop := scoreAlwaysRow.holds Try.pinned (OpenSpec.ofChange scoreAlwaysWrong)

/- THE SECOND FORM. 'bulk': how many values and letters a reading holds, each counted each time it is reached (what is shared counts as often as it is met; a slice's spare places count too). A statement '..UptoSaid' is the law's where the arguments, and the package variables that the reading takes, are together of bulk at most 1048576: NARROWER than '..Said'. Prove '..Said' where nothing that the law and all that it calls make is longer than what came in: it says more and counts as full. Else prove '..UptoSaid'. A law counts once. -/
mutual
def uptoBulk {H : Type} : DataW H → Nat
  | .lit (.string bytes) => bytes.length + 1
  | .lit _ => 1
  | .nil => 1
  | .ptr d => uptoBulk d + 1
  | .slice elems spare => uptoBulkAll elems + uptoBulkAll spare + 1
  | .agg parts => uptoBulkAll parts + 1
  | .iface _ d => uptoBulk d + 1
  | .map entries => uptoBulkEntries entries + 1
  | .held _ => 1
def uptoBulkAll {H : Type} : List (DataW H) → Nat
  | [] => 0
  | d :: r => uptoBulk d + uptoBulkAll r
def uptoBulkEntries {H : Type} : List (Lit × DataW H) → Nat
  | [] => 0
  | x :: r => uptoBulkEntry x + uptoBulkEntries r
def uptoBulkEntry {H : Type} : Lit × DataW H → Nat
  | (.string bytes, d) => bytes.length + uptoBulk d + 1
  | (_, d) => uptoBulk d + 1
 end
def uptoSmall : (H : Type) → List (DataW H) → Bool := fun _ ds => decide (uptoBulkAll ds ≤ 1048576)
def OpenSpec.upto (s : _root_.Go.ChangeSpec) : _root_.Go.OpenSpec := { _root_.Go.OpenSpec.ofChange s with cond := some uptoSmall }

/-- 'waywiserlaw17.ScoreLogs', WHERE WHAT IT READS IS OF BULK AT MOST 1048576: true; the input reads as it did. -/
def scoreLogsUptoRow : OpenClaim := { program := "ytcacfidejhmieaa", sum := "92afe635ddd41a21e0a9a4f2ab68b6fcff0508c5155aa72ffea053ddbd623001", func := "waywiser/waywiserlaw17.ScoreLogs", spec := "scoreLogs", unfollowed := true, recurses := true, apart := false, narrowed := true }
def ScoreLogsUptoSaid : Prop := scoreLogsUptoRow.holds Try.pinned (OpenSpec.upto scoreLogsSpec)

/-- 'waywiserlaw17.ScoreTells', WHERE WHAT IT READS IS OF BULK AT MOST 1048576: true; the input reads as it did. -/
def scoreTellsUptoRow : OpenClaim := { program := "ytcacfidejhmieaa", sum := "92afe635ddd41a21e0a9a4f2ab68b6fcff0508c5155aa72ffea053ddbd623001", func := "waywiser/waywiserlaw17.ScoreTells", spec := "scoreTells", unfollowed := true, recurses := true, apart := false, narrowed := true }
def ScoreTellsUptoSaid : Prop := scoreTellsUptoRow.holds Try.pinned (OpenSpec.upto scoreTellsSpec)

/-- 'waywiserlaw17.ScoreGrows', WHERE WHAT IT READS IS OF BULK AT MOST 1048576: true; the input reads as it did. -/
def scoreGrowsUptoRow : OpenClaim := { program := "ytcacfidejhmieaa", sum := "92afe635ddd41a21e0a9a4f2ab68b6fcff0508c5155aa72ffea053ddbd623001", func := "waywiser/waywiserlaw17.ScoreGrows", spec := "scoreGrows", unfollowed := true, recurses := true, apart := false, narrowed := true }
def ScoreGrowsUptoSaid : Prop := scoreGrowsUptoRow.holds Try.pinned (OpenSpec.upto scoreGrowsSpec)

/-- 'waywiserlaw17.ScoreBounds', WHERE WHAT IT READS IS OF BULK AT MOST 1048576: true; the input reads as it did. -/
def scoreBoundsUptoRow : OpenClaim := { program := "ytcacfidejhmieaa", sum := "92afe635ddd41a21e0a9a4f2ab68b6fcff0508c5155aa72ffea053ddbd623001", func := "waywiser/waywiserlaw17.ScoreBounds", spec := "scoreBounds", unfollowed := true, recurses := true, apart := false, narrowed := true }
def ScoreBoundsUptoSaid : Prop := scoreBoundsUptoRow.holds Try.pinned (OpenSpec.upto scoreBoundsSpec)

/-- 'waywiserlaw17.ScoreAlways', WHERE WHAT IT READS IS OF BULK AT MOST 1048576: true; the input reads as it did. -/
def scoreAlwaysUptoRow : OpenClaim := { program := "ytcacfidejhmieaa", sum := "92afe635ddd41a21e0a9a4f2ab68b6fcff0508c5155aa72ffea053ddbd623001", func := "waywiser/waywiserlaw17.ScoreAlways", spec := "scoreAlways", unfollowed := true, recurses := true, apart := false, narrowed := true }
def ScoreAlwaysUptoSaid : Prop := scoreAlwaysUptoRow.holds Try.pinned (OpenSpec.upto scoreAlwaysSpec)

end Rows
end Go.Proofs.Ytcacfidejhmieaa
