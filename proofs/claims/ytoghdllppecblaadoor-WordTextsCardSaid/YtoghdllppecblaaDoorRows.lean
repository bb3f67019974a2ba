/-
  NARROWER THAN 'FOR EVERY INPUT', by the rows' own cells (each row's printed sentence says how): WordSigns: laid · WordTexts: laid · WordOnce: laid · WordJoins: laid · WordCuts: laid.
  DERIVED. THE GIVEN ROWS OF THIS SEAT. 5 by the template 'for every input the law returns true; each argument reads behind the call as it read before'; 0 by the template 'total and deterministic' (their statements: YtoghdllppecblaaDoorTotals.lean).
  GIVEN WITH THE SEED: the statements are not yours to turn. If you find one false, say at which input.
  Laid BY PROGRAM, IN A SANDBOX (cutbox-rows.mjs): the forced cells as the released guide's own fill.sh prints them over the translation a4173f35ad23e585… (all of the seat's roots in one cut). By AI agents, Wed Nov 11 2026. No macro, syntax, notation, axiom, sorry.
-/
import Derived.Test.YtoghdllppecblaaDoorChecked
import GoSem.Claim
import GoSem.ClaimJoined
import GoSem.ClaimMapViews
import Derived.JoinedTies
import Derived.KernelRfl
namespace Go.Proofs.YtoghdllppecblaaDoor
/- THE CELL 'sum', in the pinned program and in every row, IS THE sha256 OF THE DUMP (.gsa) THAT YtoghdllppecblaaDoorProg.lean LOADS. Nothing in Lean hashes anything: it is a label: what it is worth is what the hold of that sum in a sandbox is worth. -/
noncomputable def Tryd.pinned : Pinned := { name := "ytoghdllppecblaadoor", sum := "a4173f35ad23e5855fdf72588e930e90801a34fa8a83ae4a2cfdbadf19e0cd5a", checked := Tryd.checked }
namespace Rows
def none {H : Type} : Left H := { results := [], args := [] }

/- WHAT THE LISTED PACKAGE-LEVEL VARIABLES READ AS WHEN THE CALL BEGINS. Each datum BY PROGRAM (the guide's laid-datum.mjs) off the statement by which the dump's own 'gosem.cut.vars' lays the variable. In a bare row this is a premise. The card (YtoghdllppecblaaDoorCards.lean) ties it to the program's text. -/
def laid_waywiser_word_table {H : Type} : DataW H := .agg [.agg [.lit (.int .i32 170), .lit (.int .i32 170), .lit (.string [97])], .agg [.lit (.int .i32 181), .lit (.int .i32 181), .lit (.string [117])], .agg [.lit (.int .i32 186), .lit (.int .i32 186), .lit (.string [111])], .agg [.lit (.int .i32 192), .lit (.int .i32 197), .lit (.string [97])], .agg [.lit (.int .i32 198), .lit (.int .i32 198), .lit (.string [97, 101])], .agg [.lit (.int .i32 199), .lit (.int .i32 199), .lit (.string [99])], .agg [.lit (.int .i32 200), .lit (.int .i32 203), .lit (.string [101])], .agg [.lit (.int .i32 204), .lit (.int .i32 207), .lit (.string [105])], .agg [.lit (.int .i32 208), .lit (.int .i32 208), .lit (.string [100])], .agg [.lit (.int .i32 209), .lit (.int .i32 209), .lit (.string [110])], .agg [.lit (.int .i32 210), .lit (.int .i32 214), .lit (.string [111])], .agg [.lit (.int .i32 216), .lit (.int .i32 216), .lit (.string [111])], .agg [.lit (.int .i32 217), .lit (.int .i32 220), .lit (.string [117])], .agg [.lit (.int .i32 221), .lit (.int .i32 221), .lit (.string [121])], .agg [.lit (.int .i32 222), .lit (.int .i32 222), .lit (.string [116, 104])], .agg [.lit (.int .i32 223), .lit (.int .i32 223), .lit (.string [115, 115])], .agg [.lit (.int .i32 255), .lit (.int .i32 255), .lit (.string [121])], .agg [.lit (.int .i32 256), .lit (.int .i32 261), .lit (.string [97])], .agg [.lit (.int .i32 262), .lit (.int .i32 269), .lit (.string [99])], .agg [.lit (.int .i32 270), .lit (.int .i32 273), .lit (.string [100])], .agg [.lit (.int .i32 274), .lit (.int .i32 283), .lit (.string [101])], .agg [.lit (.int .i32 284), .lit (.int .i32 291), .lit (.string [103])], .agg [.lit (.int .i32 292), .lit (.int .i32 295), .lit (.string [104])], .agg [.lit (.int .i32 296), .lit (.int .i32 305), .lit (.string [105])], .agg [.lit (.int .i32 306), .lit (.int .i32 307), .lit (.string [105, 106])], .agg [.lit (.int .i32 308), .lit (.int .i32 309), .lit (.string [106])], .agg [.lit (.int .i32 310), .lit (.int .i32 312), .lit (.string [107])], .agg [.lit (.int .i32 313), .lit (.int .i32 322), .lit (.string [108])], .agg [.lit (.int .i32 323), .lit (.int .i32 329), .lit (.string [110])], .agg [.lit (.int .i32 330), .lit (.int .i32 331), .lit (.string [110, 103])], .agg [.lit (.int .i32 332), .lit (.int .i32 337), .lit (.string [111])], .agg [.lit (.int .i32 338), .lit (.int .i32 339), .lit (.string [111, 101])], .agg [.lit (.int .i32 340), .lit (.int .i32 345), .lit (.string [114])], .agg [.lit (.int .i32 346), .lit (.int .i32 353), .lit (.string [115])], .agg [.lit (.int .i32 354), .lit (.int .i32 359), .lit (.string [116])], .agg [.lit (.int .i32 360), .lit (.int .i32 371), .lit (.string [117])], .agg [.lit (.int .i32 372), .lit (.int .i32 373), .lit (.string [119])], .agg [.lit (.int .i32 374), .lit (.int .i32 376), .lit (.string [121])], .agg [.lit (.int .i32 377), .lit (.int .i32 382), .lit (.string [122])], .agg [.lit (.int .i32 383), .lit (.int .i32 383), .lit (.string [115])]]
def laid_waywiser_word_stops {H : Type} : DataW H := .agg [.lit (.string [97]), .lit (.string [97, 110]), .lit (.string [97, 110, 100]), .lit (.string [97, 114, 101]), .lit (.string [97, 115]), .lit (.string [97, 116]), .lit (.string [98, 101]), .lit (.string [98, 117, 116]), .lit (.string [98, 121]), .lit (.string [102, 111, 114]), .lit (.string [105, 102]), .lit (.string [105, 110]), .lit (.string [105, 110, 116, 111]), .lit (.string [105, 115]), .lit (.string [105, 116]), .lit (.string [110, 111]), .lit (.string [110, 111, 116]), .lit (.string [111, 102]), .lit (.string [111, 110]), .lit (.string [111, 114]), .lit (.string [115, 117, 99, 104]), .lit (.string [116, 104, 97, 116]), .lit (.string [116, 104, 101]), .lit (.string [116, 104, 101, 105, 114]), .lit (.string [116, 104, 101, 110]), .lit (.string [116, 104, 101, 114, 101]), .lit (.string [116, 104, 101, 115, 101]), .lit (.string [116, 104, 101, 121]), .lit (.string [116, 104, 105, 115]), .lit (.string [116, 111]), .lit (.string [119, 97, 115]), .lit (.string [119, 105, 108, 108]), .lit (.string [119, 105, 116, 104])]

/-- 'waywiserlaw14.WordSigns': WHATEVER THE INPUT: true; the input reads as it did. -/
def wordSignsSpec : ChangeSpec := { name := "wordSigns", fn := fun _ => fun
  | [d1, d2] => { results := [.lit (.bool true)], args := [d1, d2] }
  | _ => none }
def wordSignsRow : OpenClaim := { program := "ytoghdllppecblaadoor", sum := "a4173f35ad23e5855fdf72588e930e90801a34fa8a83ae4a2cfdbadf19e0cd5a", func := "waywiser/waywiserlaw14.WordSigns", spec := "wordSigns", unfollowed := true, recurses := true, named := ["waywiser/word.table", "waywiser/word.stops"], apart := false, laid := [("waywiser/word.table", laid_waywiser_word_table), ("waywiser/word.stops", laid_waywiser_word_stops)] }
def WordSignsSaid : Prop := wordSignsRow.holds Tryd.pinned (OpenSpec.ofChange wordSignsSpec)

/-- ITS FALSE NEIGHBOUR: 'it returns false'. Refute it at one input. -/
def wordSignsWrong : ChangeSpec := { name := "wordSigns", fn := fun _ => fun
  | [d1, d2] => { results := [.lit (.bool false)], args := [d1, d2] }
  | _ => none }
def WordSignsWrongFalsely : Prop := wordSignsRow.holds Tryd.pinned (OpenSpec.ofChange wordSignsWrong)

/-- 'waywiserlaw14.WordTexts': WHATEVER THE INPUT: true; the input reads as it did. -/
def wordTextsSpec : ChangeSpec := { name := "wordTexts", fn := fun _ => fun
  | [d] => { results := [.lit (.bool true)], args := [d] }
  | _ => none }
def wordTextsRow : OpenClaim := { program := "ytoghdllppecblaadoor", sum := "a4173f35ad23e5855fdf72588e930e90801a34fa8a83ae4a2cfdbadf19e0cd5a", func := "waywiser/waywiserlaw14.WordTexts", spec := "wordTexts", unfollowed := true, recurses := true, named := ["waywiser/word.table", "waywiser/word.stops"], apart := false, laid := [("waywiser/word.table", laid_waywiser_word_table), ("waywiser/word.stops", laid_waywiser_word_stops)] }
def WordTextsSaid : Prop := wordTextsRow.holds Tryd.pinned (OpenSpec.ofChange wordTextsSpec)

/-- ITS FALSE NEIGHBOUR: 'it returns false'. Refute it at one input. -/
def wordTextsWrong : ChangeSpec := { name := "wordTexts", fn := fun _ => fun
  | [d] => { results := [.lit (.bool false)], args := [d] }
  | _ => none }
def WordTextsWrongFalsely : Prop := wordTextsRow.holds Tryd.pinned (OpenSpec.ofChange wordTextsWrong)

/-- 'waywiserlaw14.WordOnce': WHATEVER THE INPUT: true; the input reads as it did. -/
def wordOnceSpec : ChangeSpec := { name := "wordOnce", fn := fun _ => fun
  | [d] => { results := [.lit (.bool true)], args := [d] }
  | _ => none }
def wordOnceRow : OpenClaim := { program := "ytoghdllppecblaadoor", sum := "a4173f35ad23e5855fdf72588e930e90801a34fa8a83ae4a2cfdbadf19e0cd5a", func := "waywiser/waywiserlaw14.WordOnce", spec := "wordOnce", unfollowed := true, recurses := true, named := ["waywiser/word.table", "waywiser/word.stops"], apart := false, laid := [("waywiser/word.table", laid_waywiser_word_table), ("waywiser/word.stops", laid_waywiser_word_stops)] }
def WordOnceSaid : Prop := wordOnceRow.holds Tryd.pinned (OpenSpec.ofChange wordOnceSpec)

/-- ITS FALSE NEIGHBOUR: 'it returns false'. Refute it at one input. -/
def wordOnceWrong : ChangeSpec := { name := "wordOnce", fn := fun _ => fun
  | [d] => { results := [.lit (.bool false)], args := [d] }
  | _ => none }
def WordOnceWrongFalsely : Prop := wordOnceRow.holds Tryd.pinned (OpenSpec.ofChange wordOnceWrong)

/-- 'waywiserlaw14.WordJoins': WHATEVER THE INPUT: true; the input reads as it did. -/
def wordJoinsSpec : ChangeSpec := { name := "wordJoins", fn := fun _ => fun
  | [d1, d2] => { results := [.lit (.bool true)], args := [d1, d2] }
  | _ => none }
def wordJoinsRow : OpenClaim := { program := "ytoghdllppecblaadoor", sum := "a4173f35ad23e5855fdf72588e930e90801a34fa8a83ae4a2cfdbadf19e0cd5a", func := "waywiser/waywiserlaw14.WordJoins", spec := "wordJoins", unfollowed := true, recurses := true, named := ["waywiser/word.table", "waywiser/word.stops"], apart := false, laid := [("waywiser/word.table", laid_waywiser_word_table), ("waywiser/word.stops", laid_waywiser_word_stops)] }
def WordJoinsSaid : Prop := wordJoinsRow.holds Tryd.pinned (OpenSpec.ofChange wordJoinsSpec)

/-- ITS FALSE NEIGHBOUR: 'it returns false'. Refute it at one input. -/
def wordJoinsWrong : ChangeSpec := { name := "wordJoins", fn := fun _ => fun
  | [d1, d2] => { results := [.lit (.bool false)], args := [d1, d2] }
  | _ => none }
def WordJoinsWrongFalsely : Prop := wordJoinsRow.holds Tryd.pinned (OpenSpec.ofChange wordJoinsWrong)

/-- 'waywiserlaw14.WordCuts': WHATEVER THE INPUT: true; the input reads as it did. -/
def wordCutsSpec : ChangeSpec := { name := "wordCuts", fn := fun _ => fun
  | [d] => { results := [.lit (.bool true)], args := [d] }
  | _ => none }
def wordCutsRow : OpenClaim := { program := "ytoghdllppecblaadoor", sum := "a4173f35ad23e5855fdf72588e930e90801a34fa8a83ae4a2cfdbadf19e0cd5a", func := "waywiser/waywiserlaw14.WordCuts", spec := "wordCuts", unfollowed := true, recurses := true, named := ["waywiser/word.table", "waywiser/word.stops"], apart := false, laid := [("waywiser/word.table", laid_waywiser_word_table), ("waywiser/word.stops", laid_waywiser_word_stops)] }
def WordCutsSaid : Prop := wordCutsRow.holds Tryd.pinned (OpenSpec.ofChange wordCutsSpec)

/-- ITS FALSE NEIGHBOUR: 'it returns false'. Refute it at one input. -/
def wordCutsWrong : ChangeSpec := { name := "wordCuts", fn := fun _ => fun
  | [d] => { results := [.lit (.bool false)], args := [d] }
  | _ => none }
def WordCutsWrongFalsely : Prop := wordCutsRow.holds Tryd.pinned (OpenSpec.ofChange wordCutsWrong)

/- THE SECOND FORM. 'bulk': how many values and letters a reading holds, each counted each time it is reached (what is shared counts as often as it is met; a slice's spare places count too). A statement '..UptoSaid' is the law's where the arguments, and the package variables that the reading takes, are together of bulk at most 1048576: NARROWER than '..Said'. Prove '..Said' where nothing that the law and all that it calls make is longer than what came in: it says more and counts as full. Else prove '..UptoSaid'. A law counts once. -/
mutual
def uptoBulk {H : Type} : DataW H → Nat
  | .lit (.string bytes) => bytes.length + 1
  | .lit _ => 1
  | .nil => 1
  | .ptr d => uptoBulk d + 1
  | .slice elems spare => uptoBulkAll elems + uptoBulkAll spare + 1
  | .agg parts => uptoBulkAll parts + 1
  | .iface _ d => uptoBulk d + 1
  | .map entries => uptoBulkEntries entries + 1
  | .held _ => 1
def uptoBulkAll {H : Type} : List (DataW H) → Nat
  | [] => 0
  | d :: r => uptoBulk d + uptoBulkAll r
def uptoBulkEntries {H : Type} : List (Lit × DataW H) → Nat
  | [] => 0
  | x :: r => uptoBulkEntry x + uptoBulkEntries r
def uptoBulkEntry {H : Type} : Lit × DataW H → Nat
  | (.string bytes, d) => bytes.length + uptoBulk d + 1
  | (_, d) => uptoBulk d + 1
 end
def uptoSmall : (H : Type) → List (DataW H) → Bool := fun _ ds => decide (uptoBulkAll ds ≤ 1048576)
def OpenSpec.upto (s : _root_.Go.ChangeSpec) : _root_.Go.OpenSpec := { _root_.Go.OpenSpec.ofChange s with cond := some uptoSmall }

/-- 'waywiserlaw14.WordSigns', WHERE WHAT IT READS IS OF BULK AT MOST 1048576: true; the input reads as it did. -/
def wordSignsUptoRow : OpenClaim := { program := "ytoghdllppecblaadoor", sum := "a4173f35ad23e5855fdf72588e930e90801a34fa8a83ae4a2cfdbadf19e0cd5a", func := "waywiser/waywiserlaw14.WordSigns", spec := "wordSigns", unfollowed := true, recurses := true, named := ["waywiser/word.table", "waywiser/word.stops"], apart := false, laid := [("waywiser/word.table", laid_waywiser_word_table), ("waywiser/word.stops", laid_waywiser_word_stops)], narrowed := true }
def WordSignsUptoSaid : Prop := wordSignsUptoRow.holds Tryd.pinned (OpenSpec.upto wordSignsSpec)

/-- 'waywiserlaw14.WordTexts', WHERE WHAT IT READS IS OF BULK AT MOST 1048576: true; the input reads as it did. -/
def wordTextsUptoRow : OpenClaim := { program := "ytoghdllppecblaadoor", sum := "a4173f35ad23e5855fdf72588e930e90801a34fa8a83ae4a2cfdbadf19e0cd5a", func := "waywiser/waywiserlaw14.WordTexts", spec := "wordTexts", unfollowed := true, recurses := true, named := ["waywiser/word.table", "waywiser/word.stops"], apart := false, laid := [("waywiser/word.table", laid_waywiser_word_table), ("waywiser/word.stops", laid_waywiser_word_stops)], narrowed := true }
def WordTextsUptoSaid : Prop := wordTextsUptoRow.holds Tryd.pinned (OpenSpec.upto wordTextsSpec)

/-- 'waywiserlaw14.WordOnce', WHERE WHAT IT READS IS OF BULK AT MOST 1048576: true; the input reads as it did. -/
def wordOnceUptoRow : OpenClaim := { program := "ytoghdllppecblaadoor", sum := "a4173f35ad23e5855fdf72588e930e90801a34fa8a83ae4a2cfdbadf19e0cd5a", func := "waywiser/waywiserlaw14.WordOnce", spec := "wordOnce", unfollowed := true, recurses := true, named := ["waywiser/word.table", "waywiser/word.stops"], apart := false, laid := [("waywiser/word.table", laid_waywiser_word_table), ("waywiser/word.stops", laid_waywiser_word_stops)], narrowed := true }
def WordOnceUptoSaid : Prop := wordOnceUptoRow.holds Tryd.pinned (OpenSpec.upto wordOnceSpec)

/-- 'waywiserlaw14.WordJoins', WHERE WHAT IT READS IS OF BULK AT MOST 1048576: true; the input reads as it did. -/
def wordJoinsUptoRow : OpenClaim := { program := "ytoghdllppecblaadoor", sum := "a4173f35ad23e5855fdf72588e930e90801a34fa8a83ae4a2cfdbadf19e0cd5a", func := "waywiser/waywiserlaw14.WordJoins", spec := "wordJoins", unfollowed := true, recurses := true, named := ["waywiser/word.table", "waywiser/word.stops"], apart := false, laid := [("waywiser/word.table", laid_waywiser_word_table), ("waywiser/word.stops", laid_waywiser_word_stops)], narrowed := true }
def WordJoinsUptoSaid : Prop := wordJoinsUptoRow.holds Tryd.pinned (OpenSpec.upto wordJoinsSpec)

/-- 'waywiserlaw14.WordCuts', WHERE WHAT IT READS IS OF BULK AT MOST 1048576: true; the input reads as it did. -/
def wordCutsUptoRow : OpenClaim := { program := "ytoghdllppecblaadoor", sum := "a4173f35ad23e5855fdf72588e930e90801a34fa8a83ae4a2cfdbadf19e0cd5a", func := "waywiser/waywiserlaw14.WordCuts", spec := "wordCuts", unfollowed := true, recurses := true, named := ["waywiser/word.table", "waywiser/word.stops"], apart := false, laid := [("waywiser/word.table", laid_waywiser_word_table), ("waywiser/word.stops", laid_waywiser_word_stops)], narrowed := true }
def WordCutsUptoSaid : Prop := wordCutsUptoRow.holds Tryd.pinned (OpenSpec.upto wordCutsSpec)

end Rows
end Go.Proofs.YtoghdllppecblaaDoor
