/-
  No cell of these rows narrows 'for every input' (looked for: loops, veiled, ifaces, maps, wideKeys, modest, calm, conditions, laid).
  DERIVED. THE GIVEN ROWS OF THIS SEAT. 6 by the template 'for every input the law returns true; each argument reads behind the call as it read before'; 0 by the template 'total and deterministic' (their statements: YtcmnnieeehmncaaTotals.lean).
  GIVEN WITH THE SEED: the statements are not yours to turn. If you find one false, say at which input.
  Laid BY PROGRAM, IN A SANDBOX (cutbox-rows.mjs): the forced cells as the released guide's own fill.sh prints them over the translation 836d9b066a9e36b9… (all of the seat's roots in one cut). By AI agents, Wed Nov 11 2026. No macro, syntax, notation, axiom, sorry.
-/
import Derived.Test.YtcmnnieeehmncaaChecked
import GoSem.Claim
import GoSem.ClaimJoined
import GoSem.ClaimMapViews
import Derived.JoinedTies
import Derived.KernelRfl
namespace Go.Proofs.Ytcmnnieeehmncaa
/- THE CELL 'sum', in the pinned program and in every row, IS THE sha256 OF THE DUMP (.gsa) THAT YtcmnnieeehmncaaProg.lean LOADS. Nothing in Lean hashes anything: it is a label: what it is worth is what the hold of that sum in a sandbox is worth. -/
noncomputable def Try.pinned : Pinned := { name := "ytcmnnieeehmncaa", sum := "836d9b066a9e36b976cf81fc7be54359080a0739a7dd6ff47130d092f5f71c8b", checked := Try.checked }
namespace Rows
def none {H : Type} : Left H := { results := [], args := [] }

/-- 'waywiserlaw18.BlockPacks': WHATEVER THE INPUT: true; the input reads as it did. -/
def blockPacksSpec : ChangeSpec := { name := "blockPacks", fn := fun _ => fun
  | [d] => { results := [.lit (.bool true)], args := [d] }
  | _ => none }
def blockPacksRow : OpenClaim := { program := "ytcmnnieeehmncaa", sum := "836d9b066a9e36b976cf81fc7be54359080a0739a7dd6ff47130d092f5f71c8b", func := "waywiser/waywiserlaw18.BlockPacks", spec := "blockPacks", recurses := true, apart := false }
def BlockPacksSaid : Prop := blockPacksRow.holds Try.pinned (OpenSpec.ofChange blockPacksSpec)

/-- ITS FALSE NEIGHBOUR: 'it returns false'. Refute it at one input. -/
def blockPacksWrong : ChangeSpec := { name := "blockPacks", fn := fun _ => fun
  | [d] => { results := [.lit (.bool false)], args := [d] }
  | _ => none }
def BlockPacksWrongFalsely : Prop := blockPacksRow.holds Try.pinned (OpenSpec.ofChange blockPacksWrong)

/-- 'waywiserlaw18.BlockReads': WHATEVER THE INPUT: true; the input reads as it did. -/
def blockReadsSpec : ChangeSpec := { name := "blockReads", fn := fun _ => fun
  | [d] => { results := [.lit (.bool true)], args := [d] }
  | _ => none }
def blockReadsRow : OpenClaim := { program := "ytcmnnieeehmncaa", sum := "836d9b066a9e36b976cf81fc7be54359080a0739a7dd6ff47130d092f5f71c8b", func := "waywiser/waywiserlaw18.BlockReads", spec := "blockReads", unfollowed := true, recurses := true, apart := false }
def BlockReadsSaid : Prop := blockReadsRow.holds Try.pinned (OpenSpec.ofChange blockReadsSpec)

/-- ITS FALSE NEIGHBOUR: 'it returns false'. Refute it at one input. -/
def blockReadsWrong : ChangeSpec := { name := "blockReads", fn := fun _ => fun
  | [d] => { results := [.lit (.bool false)], args := [d] }
  | _ => none }
def BlockReadsWrongFalsely : Prop := blockReadsRow.holds Try.pinned (OpenSpec.ofChange blockReadsWrong)

/-- 'waywiserlaw18.BlockFollows': WHATEVER THE INPUT: true; the input reads as it did. -/
def blockFollowsSpec : ChangeSpec := { name := "blockFollows", fn := fun _ => fun
  | [d1, d2, d3] => { results := [.lit (.bool true)], args := [d1, d2, d3] }
  | _ => none }
def blockFollowsRow : OpenClaim := { program := "ytcmnnieeehmncaa", sum := "836d9b066a9e36b976cf81fc7be54359080a0739a7dd6ff47130d092f5f71c8b", func := "waywiser/waywiserlaw18.BlockFollows", spec := "blockFollows", apart := false }
def BlockFollowsSaid : Prop := blockFollowsRow.holds Try.pinned (OpenSpec.ofChange blockFollowsSpec)

/-- ITS FALSE NEIGHBOUR: 'it returns false'. Refute it at one input. -/
def blockFollowsWrong : ChangeSpec := { name := "blockFollows", fn := fun _ => fun
  | [d1, d2, d3] => { results := [.lit (.bool false)], args := [d1, d2, d3] }
  | _ => none }
def BlockFollowsWrongFalsely : Prop := blockFollowsRow.holds Try.pinned (OpenSpec.ofChange blockFollowsWrong)

/-- 'waywiserlaw18.BlockBack': WHATEVER THE INPUT: true; the input reads as it did. -/
def blockBackSpec : ChangeSpec := { name := "blockBack", fn := fun _ => fun
  | [d1, d2] => { results := [.lit (.bool true)], args := [d1, d2] }
  | _ => none }
def blockBackRow : OpenClaim := { program := "ytcmnnieeehmncaa", sum := "836d9b066a9e36b976cf81fc7be54359080a0739a7dd6ff47130d092f5f71c8b", func := "waywiser/waywiserlaw18.BlockBack", spec := "blockBack", unfollowed := true, recurses := true, apart := false }
def BlockBackSaid : Prop := blockBackRow.holds Try.pinned (OpenSpec.ofChange blockBackSpec)

/-- ITS FALSE NEIGHBOUR: 'it returns false'. Refute it at one input. -/
def blockBackWrong : ChangeSpec := { name := "blockBack", fn := fun _ => fun
  | [d1, d2] => { results := [.lit (.bool false)], args := [d1, d2] }
  | _ => none }
def BlockBackWrongFalsely : Prop := blockBackRow.holds Try.pinned (OpenSpec.ofChange blockBackWrong)

/-- 'waywiserlaw18.BlockShifts': WHATEVER THE INPUT: true; the input reads as it did. -/
def blockShiftsSpec : ChangeSpec := { name := "blockShifts", fn := fun _ => fun
  | [d1, d2] => { results := [.lit (.bool true)], args := [d1, d2] }
  | _ => none }
def blockShiftsRow : OpenClaim := { program := "ytcmnnieeehmncaa", sum := "836d9b066a9e36b976cf81fc7be54359080a0739a7dd6ff47130d092f5f71c8b", func := "waywiser/waywiserlaw18.BlockShifts", spec := "blockShifts", apart := false }
def BlockShiftsSaid : Prop := blockShiftsRow.holds Try.pinned (OpenSpec.ofChange blockShiftsSpec)

/-- ITS FALSE NEIGHBOUR: 'it returns false'. Refute it at one input. -/
def blockShiftsWrong : ChangeSpec := { name := "blockShifts", fn := fun _ => fun
  | [d1, d2] => { results := [.lit (.bool false)], args := [d1, d2] }
  | _ => none }
def BlockShiftsWrongFalsely : Prop := blockShiftsRow.holds Try.pinned (OpenSpec.ofChange blockShiftsWrong)

/-- 'waywiserlaw18.BlockTops': WHATEVER THE INPUT: true; the input reads as it did. -/
def blockTopsSpec : ChangeSpec := { name := "blockTops", fn := fun _ => fun
  | [d] => { results := [.lit (.bool true)], args := [d] }
  | _ => none }
def blockTopsRow : OpenClaim := { program := "ytcmnnieeehmncaa", sum := "836d9b066a9e36b976cf81fc7be54359080a0739a7dd6ff47130d092f5f71c8b", func := "waywiser/waywiserlaw18.BlockTops", spec := "blockTops", apart := false }
def BlockTopsSaid : Prop := blockTopsRow.holds Try.pinned (OpenSpec.ofChange blockTopsSpec)

/-- ITS FALSE NEIGHBOUR: 'it returns false'. Refute it at one input. -/
def blockTopsWrong : ChangeSpec := { name := "blockTops", fn := fun _ => fun
  | [d] => { results := [.lit (.bool false)], args := [d] }
  | _ => none }
def BlockTopsWrongFalsely : Prop := blockTopsRow.holds Try.pinned (OpenSpec.ofChange blockTopsWrong)

/- THE SECOND FORM. 'bulk': how many values and letters a reading holds, each counted each time it is reached (what is shared counts as often as it is met; a slice's spare places count too). A statement '..UptoSaid' is the law's where the arguments, and the package variables that the reading takes, are together of bulk at most 1048576: NARROWER than '..Said'. Prove '..Said' where nothing that the law and all that it calls make is longer than what came in: it says more and counts as full. Else prove '..UptoSaid'. A law counts once. -/
mutual
def uptoBulk {H : Type} : DataW H → Nat
  | .lit (.string bytes) => bytes.length + 1
  | .lit _ => 1
  | .nil => 1
  | .ptr d => uptoBulk d + 1
  | .slice elems spare => uptoBulkAll elems + uptoBulkAll spare + 1
  | .agg parts => uptoBulkAll parts + 1
  | .iface _ d => uptoBulk d + 1
  | .map entries => uptoBulkEntries entries + 1
  | .held _ => 1
def uptoBulkAll {H : Type} : List (DataW H) → Nat
  | [] => 0
  | d :: r => uptoBulk d + uptoBulkAll r
def uptoBulkEntries {H : Type} : List (Lit × DataW H) → Nat
  | [] => 0
  | x :: r => uptoBulkEntry x + uptoBulkEntries r
def uptoBulkEntry {H : Type} : Lit × DataW H → Nat
  | (.string bytes, d) => bytes.length + uptoBulk d + 1
  | (_, d) => uptoBulk d + 1
 end
def uptoSmall : (H : Type) → List (DataW H) → Bool := fun _ ds => decide (uptoBulkAll ds ≤ 1048576)
def OpenSpec.upto (s : _root_.Go.ChangeSpec) : _root_.Go.OpenSpec := { _root_.Go.OpenSpec.ofChange s with cond := some uptoSmall }

/-- 'waywiserlaw18.BlockPacks', WHERE WHAT IT READS IS OF BULK AT MOST 1048576: true; the input reads as it did. -/
def blockPacksUptoRow : OpenClaim := { program := "ytcmnnieeehmncaa", sum := "836d9b066a9e36b976cf81fc7be54359080a0739a7dd6ff47130d092f5f71c8b", func := "waywiser/waywiserlaw18.BlockPacks", spec := "blockPacks", recurses := true, apart := false, narrowed := true }
def BlockPacksUptoSaid : Prop := blockPacksUptoRow.holds Try.pinned (OpenSpec.upto blockPacksSpec)

/-- 'waywiserlaw18.BlockReads', WHERE WHAT IT READS IS OF BULK AT MOST 1048576: true; the input reads as it did. -/
def blockReadsUptoRow : OpenClaim := { program := "ytcmnnieeehmncaa", sum := "836d9b066a9e36b976cf81fc7be54359080a0739a7dd6ff47130d092f5f71c8b", func := "waywiser/waywiserlaw18.BlockReads", spec := "blockReads", unfollowed := true, recurses := true, apart := false, narrowed := true }
def BlockReadsUptoSaid : Prop := blockReadsUptoRow.holds Try.pinned (OpenSpec.upto blockReadsSpec)

/-- 'waywiserlaw18.BlockFollows', WHERE WHAT IT READS IS OF BULK AT MOST 1048576: true; the input reads as it did. -/
def blockFollowsUptoRow : OpenClaim := { program := "ytcmnnieeehmncaa", sum := "836d9b066a9e36b976cf81fc7be54359080a0739a7dd6ff47130d092f5f71c8b", func := "waywiser/waywiserlaw18.BlockFollows", spec := "blockFollows", apart := false, narrowed := true }
def BlockFollowsUptoSaid : Prop := blockFollowsUptoRow.holds Try.pinned (OpenSpec.upto blockFollowsSpec)

/-- 'waywiserlaw18.BlockBack', WHERE WHAT IT READS IS OF BULK AT MOST 1048576: true; the input reads as it did. -/
def blockBackUptoRow : OpenClaim := { program := "ytcmnnieeehmncaa", sum := "836d9b066a9e36b976cf81fc7be54359080a0739a7dd6ff47130d092f5f71c8b", func := "waywiser/waywiserlaw18.BlockBack", spec := "blockBack", unfollowed := true, recurses := true, apart := false, narrowed := true }
def BlockBackUptoSaid : Prop := blockBackUptoRow.holds Try.pinned (OpenSpec.upto blockBackSpec)

/-- 'waywiserlaw18.BlockShifts', WHERE WHAT IT READS IS OF BULK AT MOST 1048576: true; the input reads as it did. -/
def blockShiftsUptoRow : OpenClaim := { program := "ytcmnnieeehmncaa", sum := "836d9b066a9e36b976cf81fc7be54359080a0739a7dd6ff47130d092f5f71c8b", func := "waywiser/waywiserlaw18.BlockShifts", spec := "blockShifts", apart := false, narrowed := true }
def BlockShiftsUptoSaid : Prop := blockShiftsUptoRow.holds Try.pinned (OpenSpec.upto blockShiftsSpec)

/-- 'waywiserlaw18.BlockTops', WHERE WHAT IT READS IS OF BULK AT MOST 1048576: true; the input reads as it did. -/
def blockTopsUptoRow : OpenClaim := { program := "ytcmnnieeehmncaa", sum := "836d9b066a9e36b976cf81fc7be54359080a0739a7dd6ff47130d092f5f71c8b", func := "waywiser/waywiserlaw18.BlockTops", spec := "blockTops", apart := false, narrowed := true }
def BlockTopsUptoSaid : Prop := blockTopsUptoRow.holds Try.pinned (OpenSpec.upto blockTopsSpec)

end Rows
end Go.Proofs.Ytcmnnieeehmncaa
