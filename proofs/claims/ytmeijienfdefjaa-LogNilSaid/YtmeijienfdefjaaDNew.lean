/- The contract of New. -/
import Derived.Test.YtmeijienfdefjaaDLeaf
namespace Go.Proofs.Ytmeijienfdefjaa
open Go.RowKit

def newS (N size : Nat) : DS := { N := N, size := size, fast := fun _ _ => 0, now := fun _ _ => 0, loose := [], armed := 0, down := false }
theorem sliceinfo : (Try.prog.info? 42).map (fun i => (i.zero, i.size, i.bytes)) = some (some (.slice none 0 0), 1, 24) := by kernel_rfl

/-- A new disk, its two lists laid in either order. -/
theorem new_disk [Spare] (w' : World) (N size p bf bn : Nat) (hN : 1 ≤ N ∧ N ≤ 1048576) (hS : 64 ≤ size ∧ size ≤ 4096) (base : Nat) (hp : base ≤ p) (hf : base ≤ bf) (hn : base ≤ bn) (hne : bf ≠ bn) (hE : ∀ g, w'.heap.size ≤ g → Spare.ok g)
    (h1 : w'.heap[p]? = some (.cells #[.int .i64 (size : Int), .slice (some ⟨bf, 0, none⟩) N N, .slice (some ⟨bn, 0, none⟩) N N, .slice none 0 0, .int .i64 0, .bool false] 78 (0, 0)))
    (h2 : w'.rowIs bf 42 N (fun _ => .slice none 0 0)) (h3 : w'.rowIs bn 42 N (fun _ => .slice none 0 0)) : Dsk w' base { p := p, bf := bf, bn := bn, cn := N, vl := .slice none 0 0 } (newS N size) where
  hp := h1
  bp := hp
  vf := ⟨_, h2, fun _ _ => ⟨fun _ _ => by show (0 : Nat) < 256; omega, .inl ⟨rfl, fun _ _ => rfl⟩⟩⟩
  vn := ⟨_, h3, fun _ _ => ⟨fun _ _ => by show (0 : Nat) < 256; omega, .inl ⟨rfl, fun _ _ => rfl⟩⟩⟩
  bfn := hne
  bbf := hf
  bbn := hn
  lo := ⟨[], rfl, World.ownsRow_nil _ _ _ _, fun _ _ _ hj => by simp at hj⟩
  hN := hN
  hS := hS
  hA := by show (0 : Nat) ≤ 9223372036854775807; omega
  hL := by show (0 : Nat) ≤ 1000000; omega
  hC := ⟨Nat.le_refl _, by show N ≤ _; omega⟩
  hE := hE

theorem three_new (w : World) (N : Nat) (c : Array Value) (W3 : World) (hW : W3 = (((w.alloc (.cells (madeCells #[.slice none 0 0] N) 42)).alloc (.cells (madeCells #[.slice none 0 0] N) 42)).alloc (.cells c 78)).drew) :
    W3.heap[w.heap.size + 1 + 1]? = some (.cells c 78 (0, 0)) ∧ W3.rowIs w.heap.size 42 N (fun _ => .slice none 0 0) ∧ W3.rowIs (w.heap.size + 1) 42 N (fun _ => .slice none 0 0) ∧ Below w.heap.size w W3 := by
  subst hW
  have r1 := World.rowIs_made w (.slice none 0 0) N 42
  have r2 := World.rowIs_made (w.alloc (.cells (madeCells #[.slice none 0 0] N) 42)) (.slice none 0 0) N 42
  rw [World.size_alloc] at r2
  refine ⟨?_, (((r1.alloc _).alloc _).drew), ((r2.alloc _).drew), ((((Below.refl _ _).alloc (Nat.le_refl _) _).alloc (by simp) _).alloc (by simp; omega) _).drew⟩
  have := heap_alloc_new ((w.alloc (.cells (madeCells #[.slice none 0 0] N) 42)).alloc (.cells (madeCells #[.slice none 0 0] N) 42)) (.cells c 78)
  rw [World.size_alloc, World.size_alloc] at this
  exact this
def NewPost [Spare] (N size : Nat) (w : World) (e : Ending) (w' : World) : Prop := ∃ M, e = .returned (.pointer (some ⟨M.p, 0, none⟩)) ∧ Dsk w' w.heap.size M (newS N size) ∧ Below w.heap.size w w'

set_option maxHeartbeats 1000000 in
theorem new_ok [Spare] (N size : Nat) (w : World) (hN : 1 ≤ N ∧ N ≤ 1048576) (hS : 64 ≤ size ∧ size ≤ 4096) (hE : ∀ g, w.heap.size ≤ g → Spare.ok g) :
    Calls Try.prog 10 #[.int .i64 N, .int .i64 size] w (NewPost N size w) := by
  have hmk := run_make_row' (P := Try.prog) 56 42 (.slice none 0 0) 24 Try.underlying56 sliceinfo rfl .i64 .i64 N (by omega) (by omega)
  obtain ⟨hN1, hN2⟩ := hN
  obtain ⟨hS1, hS2⟩ := hS
  go_enter Try.func10, Try.ntmps10
  go_wp2
  go_region
  · obtain ⟨W3, hW⟩ : ∃ W3, W3 = (((w.alloc (.cells (madeCells #[.slice none 0 0] N) 42)).alloc (.cells (madeCells #[.slice none 0 0] N) 42)).alloc
      (.cells #[.int .i64 (size : Int), .slice (some ⟨w.heap.size, 0, none⟩) N N, .slice (some ⟨w.heap.size + 1, 0, none⟩) N N, .slice none 0 0, .int .i64 0, .bool false] 78)).drew := ⟨_, rfl⟩
    obtain ⟨h1, h2, h3, h4⟩ := three_new w N _ W3 hW
    rw [← hW]
    have D := Lib.hid (new_disk W3 N size (w.heap.size + 1 + 1) w.heap.size (w.heap.size + 1) ⟨hN1, hN2⟩ ⟨hS1, hS2⟩ w.heap.size (by omega) (by omega) (by omega) (by omega) (fun g hg => hE g (Nat.le_trans h4.size hg)) h1 h2 h3)
    have B := Lib.hid h4
    clear hW h1 h2 h3 h4 hmk
    go_wp2
    go_ret
    exact ⟨_, rfl, D.out, B.out⟩
  · obtain ⟨W3, hW⟩ : ∃ W3, W3 = (((w.alloc (.cells (madeCells #[.slice none 0 0] N) 42)).alloc (.cells (madeCells #[.slice none 0 0] N) 42)).alloc
      (.cells #[.int .i64 (size : Int), .slice (some ⟨w.heap.size + 1, 0, none⟩) N N, .slice (some ⟨w.heap.size, 0, none⟩) N N, .slice none 0 0, .int .i64 0, .bool false] 78)).drew := ⟨_, rfl⟩
    obtain ⟨h1, h2, h3, h4⟩ := three_new w N _ W3 hW
    rw [← hW]
    have D := Lib.hid (new_disk W3 N size (w.heap.size + 1 + 1) (w.heap.size + 1) w.heap.size ⟨hN1, hN2⟩ ⟨hS1, hS2⟩ w.heap.size (by omega) (by omega) (by omega) (by omega) (fun g hg => hE g (Nat.le_trans h4.size hg)) h1 h3 h2)
    have B := Lib.hid h4
    clear hW h1 h2 h3 h4 hmk
    go_wp2
    go_ret
    exact ⟨_, rfl, D.out, B.out⟩
end Go.Proofs.Ytmeijienfdefjaa
