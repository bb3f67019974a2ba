/- An act as plain data; its bytes. -/
import Derived.Test.YtpajedofffnhdaaDAwake
namespace Go.Proofs.Ytpajedofffnhdaa
open Go.RowKit

structure ActD where
  kind : Int
  at_ : Int
  len : Int
  b : Nat
  fA : Option Addr
  fL : Nat
  fC : Nat
  fa : Nat → Int
def ActD.cells (x : ActD) : Array Value := #[.int .i64 x.kind, .int .i64 x.at_, .int .i64 x.len, .int .u8 (x.b : Int), .slice x.fA x.fL x.fC]
structure ActD.ok (w : World) (x : ActD) : Prop where
  k : -9223372036854775808 ≤ x.kind ∧ x.kind ≤ 9223372036854775807
  a : -9223372036854775808 ≤ x.at_ ∧ x.at_ ≤ 9223372036854775807
  l : -9223372036854775808 ≤ x.len ∧ x.len ≤ 9223372036854775807
  b : x.b < 256
  f : Ints w x.fA x.fL x.fa
  c : x.fA = none → x.fL = 0 ∧ x.fC = 0

def lenN (x : ActD) (size : Nat) : Nat := if x.len < 0 ∨ 5000 < x.len then size else x.len.toNat
def actF (b n i : Nat) : Nat := if 1 < n ∧ i = n - 1 then (b + 1) % 256 else b
theorem actF_lt {b : Nat} (h : b < 256) (n i : Nat) : actF b n i < 256 := by unfold actF; split <;> omega

theorem box_cell (w w2 : World) (x : ActD) (l : Below (w.heap.size + 1) (w.alloc (.cells x.cells 36)) w2) (j : Nat) : w2.cell? ⟨w.heap.size, j, none⟩ = x.cells[j]? := by
  rw [l.cell (p := ⟨w.heap.size, j, none⟩) (by simp)]
  exact cell_of_row _ w.heap.size j _ _ _ (heap_alloc_new w _)

set_option maxHeartbeats 1000000 in
/-- The bytes of an act whose length is decided. -/
theorem bytes_core (x : ActD) (size : Int) (n : Nat) (w : World) (hb : x.b < 256) (hn : n ≤ 5000) (h : x.len < 0 ∧ size = n ∨ (0 ≤ x.len ∧ 5000 < x.len) ∧ size = n ∨ (0 ≤ x.len ∧ x.len ≤ 5000) ∧ x.len = n) :
    Calls Try.prog 21 #[.agg x.cells, .int .i64 size] w fun e w' =>
      e = .returned (.slice (some ⟨w.heap.size + 1, 0, none⟩) n n) ∧ BRow w' (w.heap.size + 1) n (actF x.b n) ∧ Below w.heap.size w w' := by
  have HF := Lib.hid (full_any x.b n (w.alloc (.cells x.cells 36)) hb (by omega))
  have L0 := Lib.hid ((Below.refl w.heap.size w).alloc (Nat.le_refl _) (.cells x.cells 36))
  have HC := Lib.hid (fun w2 l => box_cell w w2 x l 3)
  unfold ActD.cells at HF L0 HC ⊢
  rw [World.size_alloc] at HF
  obtain ⟨xk, xa, xl, xb, xA, xL, xC, xf⟩ := x
  dsimp only at *
  rcases h with ⟨h1, rfl⟩ | ⟨h1, rfl⟩ | ⟨h1, h2⟩
  case' inr.inr => subst h2
  all_goals
    by_cases hn1 : 1 < n
    · go_enter Try.func21, Try.ntmps21
      go_wp2_with fail
      refine HF.out.mono ?_
      rintro e w2 ⟨rfl, r, l⟩
      have hc3 : w2.cell? ⟨w.heap.size, 3, none⟩ = some (.int .u8 (xb : Int)) := HC.out w2 l
      have hs := r.cell (i := n - 1) (by omega)
      have hf := r.frozen (n - 1)
      have r2 := Lib.hid ((r.set_ (n - 1) ((xb + 1) % 256) (by omega)).congr (G := actF xb n) fun i _ => by
        unfold actF
        by_cases q : i = n - 1
        · rw [if_pos q, if_pos ⟨hn1, q⟩]
        · rw [if_neg q, if_neg (fun z => q z.2)])
      have l2 := Lib.hid ((L0.out.trans (l.mono (by omega))).setCell (p := ⟨w.heap.size + 1, n - 1, none⟩) (by simp) (.int .u8 (((xb + 1) % 256 : Nat) : Int)))
      clear r l
      go_wp2
      rw [show ((xb : Int) + 1) % 256 = (((xb + 1) % 256 : Nat) : Int) by omega]
      go_ret
      exact ⟨rfl, r2.out, l2.out⟩
    · go_enter Try.func21, Try.ntmps21
      go_wp2_with fail
      refine HF.out.mono ?_
      rintro e w2 ⟨rfl, r, l⟩
      have l2 := Lib.hid (L0.out.trans (l.mono (by omega)))
      have r2 := Lib.hid (r.congr (G := actF xb n) fun i _ => by unfold actF; rw [if_neg (fun z => hn1 z.1)])
      clear r l
      go_wp2
      go_ret
      exact ⟨rfl, r2.out, l2.out⟩
theorem bytes_any (x : ActD) (size : Nat) (w : World) (hb : x.b < 256) (hs : size ≤ 5000) :
    Calls Try.prog 21 #[.agg x.cells, .int .i64 size] w fun e w' =>
      e = .returned (.slice (some ⟨w.heap.size + 1, 0, none⟩) (lenN x size) (lenN x size)) ∧ BRow w' (w.heap.size + 1) (lenN x size) (actF x.b (lenN x size)) ∧ Below w.heap.size w w' := by
  by_cases h : x.len < 0 ∨ 5000 < x.len
  · have e : lenN x size = size := if_pos h
    rw [e]
    exact bytes_core x size size w hb hs (by omega)
  · have e : lenN x size = x.len.toNat := if_neg h
    rw [e]
    exact bytes_core x size _ w hb (by omega) (by omega)
end Go.Proofs.Ytpajedofffnhdaa
