/- score.Log: for every number. -/
import Derived.Test.YtcacfidejhmieaaAIter
import Derived.Lib.BitFns
namespace Go.Proofs.Ytcacfidejhmieaa
open Go.RowKit
set_option linter.unusedVariables false
set_option linter.unusedSimpArgs false

open Go.Shelf
attribute [local go_sem] Oper.semAt_some
theorem bitAux (f : Nat) : ∀ x, x < 2 ^ f → x ≠ 0 → Lib.bitLenAux f x = Nat.log2 x + 1 := by
  induction f with
  | zero => intro x h h0; omega
  | succ f ih =>
    intro x h h0
    rw [Lib.bitLenAux, if_neg h0]
    by_cases h2 : x / 2 = 0
    · have : x = 1 := by omega
      subst this
      cases f <;> simp [Lib.bitLenAux, Nat.log2_def 1]
    · rw [ih _ (by rw [Nat.pow_succ] at h; omega) h2]
      rw [Nat.log2_def x, if_pos (by omega)]
      omega
theorem bitLen_log {x : Nat} (h : x < 18446744073709551616) (h0 : x ≠ 0) : Lib.bitLen x = Nat.log2 x + 1 := bitAux 64 x h h0
def bfold (pre : List Bool) : Nat := pre.foldl (fun s b => 2 * s + b.toNat) 0
theorem bfold_snoc (pre : List Bool) (b : Bool) : bfold (pre ++ [b]) = 2 * bfold pre + b.toNat := by unfold bfold; rw [List.foldl_append]; rfl
theorem bfold_le (pre : List Bool) : bfold pre < 2 ^ pre.length := by
  have : ∀ (l : List Bool) (s : Nat), l.foldl (fun s b => 2 * s + b.toNat) s < (s + 1) * 2 ^ l.length := by
    intro l
    induction l with
    | nil => intro s; simp
    | cons a l ih =>
      intro s
      have h1 := ih (2 * s + a.toNat)
      have h2 : a.toNat ≤ 1 := by cases a <;> simp
      rw [List.foldl_cons, List.length_cons, Nat.pow_succ]
      refine Nat.lt_of_lt_of_le h1 ?_
      rw [Nat.mul_comm (2 ^ l.length) 2, ← Nat.mul_assoc]
      exact Nat.mul_le_mul_right _ (by omega)
  have := this pre 0
  simpa [bfold] using this
theorem bfold_256 (pre : List Bool) (h : pre.length < 8) : bfold pre < 256 := by
  have h1 := bfold_le pre
  have h2 : 2 ^ pre.length ≤ 2 ^ 8 := Nat.pow_le_pow_right (by omega) (by omega)
  omega
set_option maxRecDepth 100000 in
set_option maxHeartbeats 16000000 in
theorem log_zero (w : World) : Calls Try.prog 8 #[.int .u64 0] w fun e w' => e = .returned (.int .i64 (logN 0 : Nat)) ∧ Below w.heap.size w w' := by
  go_enter Try.func8, Try.ntmps8
  go_wp2
  go_ret
  exact ⟨rfl, Below.refl _ _⟩
set_option maxRecDepth 100000 in
set_option maxHeartbeats 16000000 in
theorem log_pos (n : Nat) (hn : n < 18446744073709551616) (h0 : n ≠ 0) (w : World) : Calls Try.prog 8 #[.int .u64 n] w fun e w' => e = .returned (.int .i64 (logN n : Nat)) ∧ Below w.heap.size w w' := by
  have hx := x0_in h0
  have hbl := bitLen_log hn h0
  have hee : Nat.log2 n < 64 := lg_lt (by simpa using hn) h0
  have hhi := lg_hi n
  have HL := Lib.hid (show logN n = 256 * Nat.log2 n + behF 8 (x0 n) 0 by unfold logN; rw [if_neg h0])
  have HX := Lib.hid hx
  have hXX : ∃ X, x0 n = X := ⟨_, rfl⟩
  obtain ⟨X, hX⟩ := hXX
  have HXe := Lib.hid hX
  obtain ⟨lg, hlg⟩ : ∃ lg, Nat.log2 n = lg := ⟨_, rfl⟩
  rw [hlg] at hbl hee hhi HL
  rw [hX] at HX HL
  have hpt : ∀ w, Calls Try.prog 21 #[.int .u64 n, .int .i64 lg] w fun r w' => r = .returned (.int .u64 X) ∧ w = w' := by
    intro w
    unfold x0 at hX
    rw [hlg] at hX
    by_cases hc : 30 < lg
    · rw [if_pos hc] at hX
      rw [← hX]
      exact pointed_up n lg w hc hee
    · rw [if_neg hc] at hX
      rw [← hX]
      exact pointed_down n lg w (by omega) hhi
  have HPt := Lib.hid hpt
  have hb : ∀ w, Calls Try.prog 19 #[.int .u64 n] w fun e w' => e = .returned (.int .i64 ((lg + 1 : Nat) : Int)) ∧ w = w' := by
    intro w
    refine (Try.bits_Len64 n w (by omega) (by omega)).mono ?_
    rintro e w' ⟨rfl, rfl⟩
    rw [Int.toNat_natCast, hbl]
    exact ⟨rfl, rfl⟩
  have HBl := Lib.hid hb
  have hn0 : ((n : Int) == 0) = false := by simpa using h0
  clear hx hbl hX hlg hhi hpt hb h0
  refine (callsIn_wide (n := 6)).1 ?_
  refine callsIn_of_wp_marks Try.func8 rfl trivial ?_ rfl
  simp only [Try.ntmps8, List.size_toArray, List.length_cons, List.length_nil, Nat.reduceAdd, Nat.reduceSub, Array.replicate_succ, Array.replicate_zero, List.push_toArray, List.append_toArray, List.nil_append, List.cons_append]
  gi_wp2_with (first
    | (refine ⟨trivial, ?_⟩; gi_at_call 19; refine CallsIn.mono (callsIn_wide.2 (HBl.out _)) ?_; rintro _ _ ⟨rfl, rfl⟩)
    | (refine ⟨trivial, ?_⟩; gi_at_call 21; refine CallsIn.mono (callsIn_wide.2 (HPt.out _)) ?_; rintro _ _ ⟨rfl, rfl⟩)
    | (refine ⟨trivial, ?_⟩; gi_at_call 20; refine CallsIn.mono (callsIn_wide.2 (bitsBehind_any _ _)) ?_; rintro _ _ ⟨rfl, rfl⟩))
  have bM := (Boxed.new w 3 (.int .i64 0)).alloc (.cells #[.int .u64 X] 22)
  have bT := Boxed.new (w.alloc (.cells #[.int .i64 0] 3)) 22 (.int .u64 X)
  have hB0 : Below w.heap.size w ((w.alloc (.cells #[.int .i64 0] 3)).alloc (.cells #[.int .u64 X] 22)) := ((Below.refl _ _).alloc (Nat.le_refl _) _).alloc (by simp) _
  have hsz : ((w.alloc (.cells #[.int .i64 0] 3)).alloc (.cells #[.int .u64 X] 22)).heap.size = w.heap.size + 2 := by simp
  simp only [World.size_alloc] at bT
  obtain ⟨W0, hW0⟩ : ∃ W0, (w.alloc (.cells #[.int .i64 0] 3)).alloc (.cells #[.int .u64 X] 22) = W0 := ⟨_, rfl⟩
  rw [hW0] at bM bT hB0 hsz ⊢
  clear hW0
  have hlen := bitF_len 8 X
  refine wpIn_rangeFunc_ownH rfl (by omega) (gf := 24) (lb := #[.pointer (some ⟨w.heap.size + 1, 0, none⟩)]) rfl trivial (enters_of Try.func24 (by kernel_rfl) rfl)
    (bits_stops (6 - 1) (by omega) w (w.heap.size + 1) X HX.out W0 hB0 (by omega) bT.cell) (fun h k => KpS.t h k) (KpS.b (by omega)) (Below.refl _ _) (fun _ => rfl)
    (fun pre W => Boxed W w.heap.size 3 (.int .i64 (bfold pre : Nat)) ∧ Below w.heap.size w W)
    (fun cd pre W => False)
    (OwnFrom.and (Own.from (boxed_own _ _ (fun pre => .int .i64 (bfold pre : Nat))) _) (ownFrom_below (Nat.le_refl _) (by omega)))
    (fun cd s A B row hs hg hr => hs)
    ⟨bM, hB0⟩
    (fun x a' W => a' = { tmps := #[.int .u64 n, undef, .int .i64 0, .int .i64 lg, .pointer (some ⟨w.heap.size, 0, none⟩), .int .i64 (x.toNat : Nat), .int .u64 n, .bool false, .int .u64 n, .int .i64 (lg + 1), .int .i64 lg, .int .u64 n, .int .i64 lg, .int .u64 X, .func (.func 24) #[] #[.pointer (some ⟨w.heap.size + 1, 0, none⟩)], .int .i64 (x.toNat : Nat), undef, undef, undef, undef, undef, undef, undef, undef], defers := [] })
    (fun x a' _ X Y row hs hg hr => hs)
    ?assign ?body ?done ?stop
  case assign =>
    rintro l pre x W K hI hK
    have HKK := Lib.hid hK
    have HI := Lib.hid hI
    clear hK hI
    gi_wp2
    exact HKK.out _ _ (KeepsFrom.refl _ _) ⟨Below.refl _ _, KeepsWalks.refl _⟩ HI.out rfl
  case body =>
    rintro l pre x a' W hl ⟨r, hr⟩ ⟨bM1, hB1⟩ rfl hlt
    have cM := bM1.cell
    have fM := bM1.frozen
    have hle := bfold_256 pre hlt
    have HS := Lib.hid (bfold_snoc pre x)
    have hsW := hB1.size
    have hx1 : x.toNat ≤ 1 := by cases x <;> simp
    obtain ⟨b, hb⟩ : ∃ b, b = x.toNat := ⟨_, rfl⟩
    rw [← hb] at hx1 HS ⊢
    generalize bfold pre = m at *
    clear hlen hb
    gi_wp2
    refine ⟨(KeepsOthers.setCell _ _ _).from _, ⟨(Below.refl w.heap.size W).setCell (p := ⟨w.heap.size, 0, none⟩) (by simp) _, KeepsWalks.setCell _ _ _⟩, ?_⟩
    dsimp only
    rw [HS.out]
    exact ⟨bM1.set _, hB1.setCell (p := ⟨w.heap.size, 0, none⟩) (by simp) _⟩
  case done =>
    rintro D ys W hD rfl ⟨bM1, hB1⟩ hK
    have HF := Lib.hid (show logN n = 256 * lg + bfold (bitF 8 X) by rw [HL.out]; unfold bfold; rw [fold_bits])
    have hle := bfold_le (bitF 8 X)
    rw [hlen] at hle
    generalize bfold (bitF 8 X) = m at *
    have cM := bM1.cell
    clear hlen
    gi_wp2
    refine ⟨by simp, .inl ⟨_, _, rfl, run_takeDeferred hK, ?_⟩⟩
    refine ⟨.int .i64 (logN n : Nat), ?_, rfl, hB1.trans (belowK_b (w := w) (Nat.le_refl _) _ D _ _ (by omega) hK rfl rfl)⟩
    rw [HF.out]
    simp [results, Try.f8, go_sem]
  case stop =>
    rintro D cd pre W hD _ h
    exact h.elim
theorem log_any (n : Nat) (hn : n < 18446744073709551616) (w : World) : Calls Try.prog 8 #[.int .u64 n] w fun e w' => e = .returned (.int .i64 (logN n : Nat)) ∧ Below w.heap.size w w' := by
  by_cases h0 : n = 0
  · subst h0; exact log_zero w
  · exact log_pos n hn h0 w
end Go.Proofs.Ytcacfidejhmieaa
