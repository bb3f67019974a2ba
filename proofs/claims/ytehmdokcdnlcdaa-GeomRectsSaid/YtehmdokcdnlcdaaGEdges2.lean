/- geom's edges: the iterator hands back what it should. -/
import Derived.Test.YtehmdokcdnlcdaaGEdges
namespace Go.Proofs.Ytehmdokcdnlcdaa
open Go.RowKit
set_option linter.unusedVariables false

open Go.Shelf
attribute [local go_sem] Oper.semAt_some
theorem edges_any (A : Option Addr) (len cap : Nat) (w : World) : Calls Try.prog 44 #[.slice A len cap] w fun e w' => e = .returned (.func (.func 54) #[] #[.pointer (some ⟨w.heap.size, 0, none⟩)]) ∧ w' = w.alloc (.cells #[.slice A len cap] 26) := by
  go_enter Try.func44, Try.ntmps44
  go_wp2
  go_ret
  exact ⟨rfl, rfl⟩
theorem edges_stops (n : Nat) (hn : 1 ≤ n) (Bs n₀ b o len cap : Nat) (F : Nat → Pt) (hlen : len ≤ 9223372036854775806) (hl0 : 0 < len) (hb : b < n₀) (w : World) (hBsl : Bs < w.heap.size) (hn0 : n₀ ≤ w.heap.size)
    (hBs : w.heap[Bs]? = some (.cells #[.slice (some ⟨b, o, none⟩) len cap] 26 (0, 0)))
    (hc : ∀ i, i < len → w.cell? ⟨b, o + i * 2, none⟩ = some (.int .i64 (F i).x) ∧ w.cell? ⟨b, o + i * 2 + 1, none⟩ = some (.int .i64 (F i).y)) :
    SeqStopsK Fence.wide n Try.prog 54 #[.pointer (some ⟨Bs, 0, none⟩)] encE (KpE n₀ Bs) (fun ys => ys = uptoE F len len) (fun pre => ∃ k, k ≤ len ∧ pre = uptoE F len k) len w := fun l J Jx W hW hJ _ hY h0 =>
  edges1_in n hn l Bs n₀ b o len cap F hlen hl0 hb J Jx W hJ hY (Nat.le_trans hn0 hW.size) (Nat.lt_of_lt_of_le hBsl hW.size)
    (Boxed.cell (t := 26) ((hW.block Bs hBsl).trans hBs)) (fun i hi => ⟨kp' hW (Nat.lt_of_lt_of_le hb hn0) (hc i hi).1, kp' hW (Nat.lt_of_lt_of_le hb hn0) (hc i hi).2⟩) h0
end Go.Proofs.Ytehmdokcdnlcdaa
