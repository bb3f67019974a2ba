/- word: what a sign becomes, a text's signs, its words: plain. -/
import Derived.Test.YtoghdllppecblaaDoorProg
import Derived.Lib.MapLaws
import Derived.Lib.TrimUEq
import Derived.Laws.Runes
namespace Go.Proofs.YtoghdllppecblaaDoor
open Go.RowKit
set_option linter.unusedVariables false

/-- The table: from, to, what they become. -/
def tabL : List (Int × Int × List UInt8) := [(170, 170, [97]), (181, 181, [117]), (186, 186, [111]), (192, 197, [97]), (198, 198, [97, 101]), (199, 199, [99]), (200, 203, [101]), (204, 207, [105]), (208, 208, [100]), (209, 209, [110]), (210, 214, [111]), (216, 216, [111]), (217, 220, [117]), (221, 221, [121]), (222, 222, [116, 104]), (223, 223, [115, 115]), (255, 255, [121]), (256, 261, [97]), (262, 269, [99]), (270, 273, [100]), (274, 283, [101]), (284, 291, [103]), (292, 295, [104]), (296, 305, [105]), (306, 307, [105, 106]), (308, 309, [106]), (310, 312, [107]), (313, 322, [108]), (323, 329, [110]), (330, 331, [110, 103]), (332, 337, [111]), (338, 339, [111, 101]), (340, 345, [114]), (346, 353, [115]), (354, 359, [116]), (360, 371, [117]), (372, 373, [119]), (374, 376, [121]), (377, 382, [122]), (383, 383, [115])]
def stopL : List (List UInt8) := [[97], [97, 110], [97, 110, 100], [97, 114, 101], [97, 115], [97, 116], [98, 101], [98, 117, 116], [98, 121], [102, 111, 114], [105, 102], [105, 110], [105, 110, 116, 111], [105, 115], [105, 116], [110, 111], [110, 111, 116], [111, 102], [111, 110], [111, 114], [115, 117, 99, 104], [116, 104, 97, 116], [116, 104, 101], [116, 104, 101, 105, 114], [116, 104, 101, 110], [116, 104, 101, 114, 101], [116, 104, 101, 115, 101], [116, 104, 101, 121], [116, 104, 105, 115], [116, 111], [119, 97, 115], [119, 105, 108, 108], [119, 105, 116, 104]]
def encL (c : Int) : List UInt8 := (Utf8.encode c).data.toList
def lookL (c : Int) : List UInt8 := match tabL.find? (fun r => decide (r.1 ≤ c) && decide (c ≤ r.2.1)) with | some r => r.2.2 | none => []
def validB (c : Int) : Bool := decide (0 ≤ c ∧ c < 55296) || decide (57343 < c ∧ c ≤ 1114111)
def nilB (c : Int) : Bool := (decide (8192 ≤ c) && decide (c ≤ 8303)) || ((decide (12288 ≤ c) && decide (c ≤ 12351)) || (decide (c = 65533) || !validB c))
def isLow (c : Int) : Bool := (decide (97 ≤ c) && decide (c ≤ 122)) || (decide (48 ≤ c) && decide (c ≤ 57))
/-- What a sign becomes. -/
def foldL (c : Int) : List UInt8 :=
  if isLow c = true then encL c
  else if (decide (65 ≤ c) && decide (c ≤ 90)) = true then encL (c - 65 + 97)
  else if (decide (224 ≤ c) && decide (c ≤ 254)) = true then lookL (c - 32)
  else if c < 384 then lookL c
  else if nilB c = true then []
  else encL c
def mkB (l : List UInt8) : ByteArray := ⟨l.toArray⟩
theorem mkB_toList (b : ByteArray) : mkB b.data.toList = b := by unfold mkB; simp
theorem mkB_inj {a b : List UInt8} (h : mkB a = mkB b) : a = b := by
  have := congrArg (fun x : ByteArray => x.data.toList) h
  simpa [mkB] using this
theorem mkB_size (l : List UInt8) : (mkB l).size = l.length := by simp [mkB, ByteArray.size]
theorem mkB_app (a b : List UInt8) : mkB a ++ mkB b = mkB (a ++ b) := by
  apply ByteArray.ext
  simp [mkB, ByteArray.data_append]

theorem encL_len (c : Int) : 1 ≤ (encL c).length ∧ (encL c).length ≤ 4 := by
  unfold encL Utf8.encode
  simp only
  split <;> split
  all_goals (try split)
  all_goals (try split)
  all_goals simp
theorem look_len (c : Int) : (lookL c).length ≤ 2 := by
  unfold lookL
  split
  · rename_i r h
    have hm := List.mem_of_find?_eq_some h
    have : ∀ r ∈ tabL, r.2.2.length ≤ 2 := by decide
    exact this r hm
  · simp
theorem fold_len (c : Int) : (foldL c).length ≤ 4 := by
  unfold foldL
  have h1 := (encL_len c).2
  have h2 := (encL_len (c - 65 + 97)).2
  have h3 := look_len c
  have h4 := look_len (c - 32)
  repeat' split
  all_goals first | omega | simp
theorem fold_err : foldL 65533 = [] := by decide +kernel
end Go.Proofs.YtoghdllppecblaaDoor
