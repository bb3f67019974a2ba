/- Bytes in memory as a string; an array of the call's own. -/
import Derived.Test.YtdpgoddhchoefaaMMem
import Derived.Laws.BytesArg
import Derived.OpenShut
namespace Go.Proofs.Ytdpgoddhchoefaa
open Go.RowKit

def strF (F : Nat → Nat) (n : Nat) : ByteArray := strOfNums ((List.range n).map fun i => (F i : Int))
theorem strF_list (F : Nat → Nat) (n : Nat) : (strF F n).data.toList = (List.range n).map fun i => UInt8.ofNat (F i) := by
  unfold strF
  rw [strOfNums_data, List.map_map]
  rfl
theorem strF_mk (F : Nat → Nat) (n : Nat) (l : List UInt8) (h : (List.range n).map (fun i => UInt8.ofNat (F i)) = l) : strF F n = ⟨l.toArray⟩ := by
  have h1 := (strF_list F n).trans h
  rcases hs : strF F n with ⟨a⟩
  rw [hs] at h1
  have : a.toList = l := h1
  rw [← this]
theorem conv_any {w : World} {A : Option Addr} {n : Nat} {F : Nat → Nat} (c : Nat) (h : Bytes w A n F) :
    (convert 89 9 (.slice A n c)).run Try.prog w = .ok (.string (strF F n)) w := by
  rcases Nat.eq_zero_or_pos n with h0 | h0
  · subst h0
    rcases A with _ | ad
    · rw [run_convert_bytes_nil w 89 5 Try.underlying89 Try.underlying5 0 c 9 Try.underlying9]
      rfl
    · rw [run_convert_bytes_string w _ _ _ _ 0 c Try.underlying89 Try.underlying5 Try.underlying9,
        run_bytesToString w ad 0 c [] (run_loadCells_list w ad [] (fun j v hj => by simp at hj))]
      rfl
  · obtain ⟨b, o, rfl, hc⟩ := h.2.2 h0
    exact run_convert_bytes_arg w 89 5 Try.underlying89 Try.underlying5 b o n c _ (by simp) (fun i hi => by rw [hc i hi]; simp [hi]) 9 Try.underlying9
theorem ret_str {a b : ByteArray} (h : a = b) : Ending.returned (.string a) = .returned (.string b) := by rw [h]
end Go.Proofs.Ytdpgoddhchoefaa
