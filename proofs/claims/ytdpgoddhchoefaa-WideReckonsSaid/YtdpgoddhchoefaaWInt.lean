/- wide's Int; size. -/
import Derived.Test.YtdpgoddhchoefaaWCmp
namespace Go.Proofs.Ytdpgoddhchoefaa
open Go.RowKit
set_option linter.unusedVariables false

theorem In64.sv {v : Int} (h : In64 (svW v)) : wrap64 (loW v) = svW v ∧ hiW (svW v) = hiW v ∧ loW (svW v) = loW v := by
  unfold In64 at h
  rw [wrap64_eq]
  unfold svW hiW loW at *
  omega
theorem not64 {v : Int} (h : ¬ In64 (svW v)) : hiW (wrap64 (loW v)) ≠ hiW v := by
  unfold In64 at h
  rw [wrap64_eq]
  unfold svW hiW loW at *
  omega
theorem in64_wrap (n : Int) : In64 (wrap64 n) := by rw [wrap64_eq]; unfold In64; omega
set_option maxRecDepth 100000 in
set_option maxHeartbeats 1000000 in
theorem int_yes (x : Int) (h : In64 (svW x)) (w : World) : Calls Try.prog 30 #[.agg #[.int .i64 (hiW x), .int .u64 (loW x)]] w fun e w' => e = .returned (.tuple #[.int .i64 (svW x), .bool true]) ∧ Below w.heap.size w w' := by
  obtain ⟨e1, e2, e3⟩ := h.sv
  have K := fun W => of_any (svW x) h W
  rw [e2, e3] at K
  have k0 := loW_bd x
  have H := Lib.hid K
  clear K e2 e3 h
  go_enter Try.func30, Try.ntmps30
  go_wp2
  go_region_held3 (fun W => W.cell? ⟨w.heap.size, 0, none⟩ = some (.int .i64 (hiW x)) ∧ W.cell? ⟨w.heap.size, 1, none⟩ = some (.int .u64 (loW x))) (go_keep) (first
    | (go_at_call 29; refine (H.out _).mono ?_; rintro e w' ⟨rfl, l1⟩; obtain ⟨hc, hf⟩ := bcell l1))
  go_wp2
  go_ret2
  exact ⟨rfl, (((Below.refl _ _).alloc (Nat.le_refl _) _).drew).trans (l1.mono (by simp))⟩
set_option maxRecDepth 100000 in
set_option maxHeartbeats 1000000 in
theorem int_no (x : Int) (h : ¬ In64 (svW x)) (w : World) : Calls Try.prog 30 #[.agg #[.int .i64 (hiW x), .int .u64 (loW x)]] w fun e w' => e = .returned (.tuple #[.int .i64 0, .bool false]) ∧ Below w.heap.size w w' := by
  have hn := not64 h
  have K := fun W => of_any (wrap64 (loW x)) (in64_wrap _) W
  have k0 := loW_bd x
  have H := Lib.hid K
  have q1 : (hiW x == hiW (wrap64 (loW x))) = false := by simpa using fun e => hn e.symm
  clear K h hn
  go_enter Try.func30, Try.ntmps30
  go_wp2
  go_region_held3 (fun W => W.cell? ⟨w.heap.size, 0, none⟩ = some (.int .i64 (hiW x)) ∧ W.cell? ⟨w.heap.size, 1, none⟩ = some (.int .u64 (loW x))) (go_keep) (first
    | (go_at_call 29; refine (H.out _).mono ?_; rintro e w' ⟨rfl, l1⟩; obtain ⟨hc, hf⟩ := bcell l1))
  go_wp2
  go_ret2
  exact ⟨rfl, (((Below.refl _ _).alloc (Nat.le_refl _) _).drew).trans (l1.mono (by simp))⟩
end Go.Proofs.Ytdpgoddhchoefaa
