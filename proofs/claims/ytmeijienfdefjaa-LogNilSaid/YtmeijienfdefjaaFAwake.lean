/- The contract of awake: what the chapter's examples say. -/
import Derived.Test.YtmeijienfdefjaaFBuild
import Derived.Lib.SlBytesConst
namespace Go.Proofs.Ytmeijienfdefjaa
open Go.RowKit

def hiF (i : Nat) : Nat := [104, 105].getD i 0
def figF (i : Nat) : Nat := [49, 50, 51, 52, 53, 54, 55, 56, 57].getD i 0
theorem fig_crc : crc figF 9 = 3421780262 := by decide +kernel
theorem sec_0 : secF 44 5 2 hiF 0 = 5 := by decide +kernel
theorem sec_8 : secF 44 5 2 hiF 8 = 250 := by decide +kernel
theorem sec_16 : secF 44 5 2 hiF 16 = 104 := by decide +kernel
theorem sec_48 : secF 44 5 2 hiF 48 = 5 := by decide +kernel
theorem sec_56 : secF 44 5 2 hiF 56 = 250 := by decide +kernel

theorem marked_bytes (w : World) (C : Array Value) (F : Nat → Nat) (fr : Nat × Nat) (n : Nat) (hn : n ≤ 4096) (h : ∀ i, i < n → C[i]? = some (.int .u8 (F i)) ∧ F i < 256) :
    Bytes (w.alloc (.cells C 5 fr)) (some ⟨w.heap.size, 0, none⟩) n F := by
  refine ⟨by omega, fun i hi => (h i hi).2, fun _ => ⟨_, _, rfl, fun i hi => ?_⟩⟩
  have e : (w.alloc (.cells C 5 fr)).heap[w.heap.size]? = some (.cells C 5 fr) := heap_alloc_new w _
  rw [Nat.zero_add]
  simp only [World.cell?, e, (h i hi).1]
  rfl
theorem hi_bytes (w : World) (fr : Nat × Nat) : Bytes (w.alloc (.cells #[.int .u8 104, .int .u8 105] 5 fr)) (some ⟨w.heap.size, 0, none⟩) 2 hiF := by
  refine marked_bytes w _ hiF fr 2 (by omega) fun i hi => ?_
  match i, hi with
  | 0, _ => exact ⟨rfl, by decide⟩
  | 1, _ => exact ⟨rfl, by decide⟩
theorem fig_bytes (w : World) (fr : Nat × Nat) : Bytes (w.alloc (.cells #[.int .u8 49, .int .u8 50, .int .u8 51, .int .u8 52, .int .u8 53, .int .u8 54, .int .u8 55, .int .u8 56, .int .u8 57] 5 fr)) (some ⟨w.heap.size, 0, none⟩) 9 figF := by
  refine marked_bytes w _ figF fr 9 (by omega) fun i hi => ?_
  match i, hi with
  | 0, _ => exact ⟨rfl, by decide⟩
  | 1, _ => exact ⟨rfl, by decide⟩
  | 2, _ => exact ⟨rfl, by decide⟩
  | 3, _ => exact ⟨rfl, by decide⟩
  | 4, _ => exact ⟨rfl, by decide⟩
  | 5, _ => exact ⟨rfl, by decide⟩
  | 6, _ => exact ⟨rfl, by decide⟩
  | 7, _ => exact ⟨rfl, by decide⟩
  | 8, _ => exact ⟨rfl, by decide⟩

end Go.Proofs.Ytmeijienfdefjaa
