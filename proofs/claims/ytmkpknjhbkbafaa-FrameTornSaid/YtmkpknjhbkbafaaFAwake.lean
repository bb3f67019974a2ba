/- The contract of awake: what the chapter's examples say. -/
import Derived.Test.YtmkpknjhbkbafaaFBuild
import Derived.Lib.SlBytesConst
namespace Go.Proofs.Ytmkpknjhbkbafaa
open Go.RowKit

def hiF (i : Nat) : Nat := [104, 105].getD i 0
def figF (i : Nat) : Nat := [49, 50, 51, 52, 53, 54, 55, 56, 57].getD i 0
theorem fig_crc : crc figF 9 = 3421780262 := by decide +kernel
theorem sec_0 : secF 44 5 2 hiF 0 = 5 := by decide +kernel
theorem sec_8 : secF 44 5 2 hiF 8 = 250 := by decide +kernel
theorem sec_16 : secF 44 5 2 hiF 16 = 104 := by decide +kernel
theorem sec_48 : secF 44 5 2 hiF 48 = 5 := by decide +kernel
theorem sec_56 : secF 44 5 2 hiF 56 = 250 := by decide +kernel

theorem marked_bytes (w : World) (C : Array Value) (F : Nat → Nat) (fr : Nat × Nat) (n : Nat) (hn : n ≤ 4096) (h : ∀ i, i < n → C[i]? = some (.int .u8 (F i)) ∧ F i < 256) :
    Bytes (w.alloc (.cells C 5 fr)) (some ⟨w.heap.size, 0, none⟩) n F := by
  refine ⟨by omega, fun i hi => (h i hi).2, fun _ => ⟨_, _, rfl, fun i hi => ?_⟩⟩
  have e : (w.alloc (.cells C 5 fr)).heap[w.heap.size]? = some (.cells C 5 fr) := heap_alloc_new w _
  rw [Nat.zero_add]
  simp only [World.cell?, e, (h i hi).1]
  rfl
theorem hi_bytes (w : World) (fr : Nat × Nat) : Bytes (w.alloc (.cells #[.int .u8 104, .int .u8 105] 5 fr)) (some ⟨w.heap.size, 0, none⟩) 2 hiF := by
  refine marked_bytes w _ hiF fr 2 (by omega) fun i hi => ?_
  match i, hi with
  | 0, _ => exact ⟨rfl, by decide⟩
  | 1, _ => exact ⟨rfl, by decide⟩
theorem fig_bytes (w : World) (fr : Nat × Nat) : Bytes (w.alloc (.cells #[.int .u8 49, .int .u8 50, .int .u8 51, .int .u8 52, .int .u8 53, .int .u8 54, .int .u8 55, .int .u8 56, .int .u8 57] 5 fr)) (some ⟨w.heap.size, 0, none⟩) 9 figF := by
  refine marked_bytes w _ figF fr 9 (by omega) fun i hi => ?_
  match i, hi with
  | 0, _ => exact ⟨rfl, by decide⟩
  | 1, _ => exact ⟨rfl, by decide⟩
  | 2, _ => exact ⟨rfl, by decide⟩
  | 3, _ => exact ⟨rfl, by decide⟩
  | 4, _ => exact ⟨rfl, by decide⟩
  | 5, _ => exact ⟨rfl, by decide⟩
  | 6, _ => exact ⟨rfl, by decide⟩
  | 7, _ => exact ⟨rfl, by decide⟩
  | 8, _ => exact ⟨rfl, by decide⟩

set_option maxHeartbeats 1000000 in
theorem awake_any (w : World) : Calls Try.prog 11 #[] w fun e w' => e = .returned (.bool true) ∧ Below w.heap.size w w' := by
  have kc := fun (w : World) (C : Array Value) (n c : Nat) => Lib.run_convert_bytes_const (P := Try.prog) w 22 5 C n c Try.underlying22 Try.underlying5
  go_enter Try.func11, Try.ntmps11
  go_wp2_with fail
  refine (build_ok 64 44 5 2 2 _ hiF _ (by omega) (by omega) (by omega) (by omega) (by omega) (by omega) (by omega) (hi_bytes w _)).mono ?_
  rintro e W1 ⟨rfl, b1, l1⟩
  have L1 : Below w.heap.size w W1 := ((Below.refl w.heap.size w).alloc (Nat.le_refl _) _).trans (l1.mono (by rw [World.size_alloc]; omega))
  clear l1
  rw [World.size_alloc] at b1 ⊢
  have c0 : W1.cell? ⟨w.heap.size + 1, 0, none⟩ = some (.int .u8 5) := by have := b1.cell (i := 0) (by omega); rw [sec_0] at this; exact this
  have c8 : W1.cell? ⟨w.heap.size + 1, 8, none⟩ = some (.int .u8 250) := by have := b1.cell (i := 8) (by omega); rw [sec_8] at this; exact this
  have c16 : W1.cell? ⟨w.heap.size + 1, 16, none⟩ = some (.int .u8 104) := by have := b1.cell (i := 16) (by omega); rw [sec_16] at this; exact this
  have c48 : W1.cell? ⟨w.heap.size + 1, 48, none⟩ = some (.int .u8 5) := by have := b1.cell (i := 48) (by omega); rw [sec_48] at this; exact this
  have c56 : W1.cell? ⟨w.heap.size + 1, 56, none⟩ = some (.int .u8 250) := by have := b1.cell (i := 56) (by omega); rw [sec_56] at this; exact this
  have hlt := b1.lt
  clear b1
  go_wp2_with fail
  refine (check_any _ 9 _ figF _ (fig_bytes W1 _)).mono ?_
  rintro e W2 ⟨rfl, rfl⟩
  rw [fig_crc]
  have L2 := L1.alloc L1.size (.cells #[.int .u8 49, .int .u8 50, .int .u8 51, .int .u8 52, .int .u8 53, .int .u8 54, .int .u8 55, .int .u8 56, .int .u8 57] 5 (9, 10))
  clear L1 kc
  go_wp2_with fail
  go_ret
  exact ⟨rfl, L2⟩
end Go.Proofs.Ytmkpknjhbkbafaa
