/- log.loadOf: the load of the slot that holds a change. -/
import Derived.Test.YtmeijienfdefjaaLLittle
import Derived.Test.YtmeijienfdefjaaMAppend
import Derived.Deep.DeepCutAuto
import Derived.Deep.CutRange
namespace Go.Proofs.Ytmeijienfdefjaa
open Go.RowKit
set_option linter.unusedVariables false

theorem run_make_cap (m : Nat) (hm : m ≤ 100000) (w : World) : (Instr.makeSlice 42 (.int .i64 9) (.int .i64 (9 + (m : Int)))).run Try.prog w = .ok (.slice (some ⟨w.heap.size, 0, none⟩) 9 (9 + m)) (w.alloc (.cells (madeCells #[.int .u8 0] (9 + m)) 5)) := by
  obtain ⟨i, hi, hzz⟩ := Option.map_eq_some_iff.1 u8info
  simp only [Prod.mk.injEq] at hzz
  obtain ⟨hz, hs, hb⟩ := hzz
  have hr := run_make (P := Try.prog) w 42 5 i (.int .u8 0) Try.underlying42 hi hz .i64 .i64 9 (9 + (m : Int)) (by omega) (by omega) (by rw [hb]; omega) (by omega)
  have e : (9 + (m : Int)).toNat = 9 + m := by omega
  simp only [e, hs, Nat.mul_one] at hr
  exact hr
/-- The front of a row of the call's own, as a slice. -/
theorem row_own {w : World} {g N n base : Nat} {F : Nat → Nat} (h : BRow w g N F) (hn : n ≤ N) (hb : base ≤ g) : OwnB w base (some ⟨g, 0, none⟩) n N F := by
  obtain ⟨⟨cur, h1, h2, h3⟩, h4, h5⟩ := h
  refine ⟨⟨by simp [cellsOfF], .inr ⟨g, N, cur, rfl, hb, h1, hn, by unfold maxLen; omega, by omega, ?_⟩⟩, fun i hi => h4 i (by omega), hn, h5, fun e => by cases e⟩
  apply List.ext_getElem?
  intro i
  unfold cellsOfF
  rw [Nat.mul_one, List.getElem?_take, List.getElem?_map]
  by_cases hi : i < n
  · rw [if_pos hi, List.getElem?_range hi, Array.getElem?_toList, h3 i (by omega)]; rfl
  · rw [if_neg hi, List.getElem?_eq_none (by simpa using hi)]; rfl
theorem load_eq (page m : Nat) (last : Bool) (G : Nat → Nat) (i : Nat) (hi : i < 9 + m) : catF (if last = true then fun j => if j = 8 then 1 else putF zeroF 0 8 page j else putF zeroF 0 8 page) 9 G i = loadF page last G i := by
  have e : i < 8 → putF zeroF 0 8 page i = leF page i := fun h => by unfold putF leF; rw [if_pos (by omega)]; simp
  have e8 : putF zeroF 0 8 page 8 = 0 := by unfold putF zeroF; rw [if_neg (by omega)]
  cases last
  · show (if i < 9 then putF zeroF 0 8 page i else G (i - 9)) = if i < 8 then leF page i else if i = 8 then 0 else G (i - 9)
    by_cases h8 : i < 8
    · rw [if_pos (by omega), if_pos h8]; exact e h8
    · by_cases h9 : i = 8
      · subst h9; rw [if_pos (by omega), if_neg (by omega), if_pos rfl]; exact e8
      · rw [if_neg (by omega), if_neg h8, if_neg h9]
  · show (if i < 9 then (if i = 8 then 1 else putF zeroF 0 8 page i) else G (i - 9)) = if i < 8 then leF page i else if i = 8 then 1 else G (i - 9)
    by_cases h8 : i < 8
    · rw [if_pos (by omega), if_pos h8, if_neg (by omega)]; exact e h8
    · by_cases h9 : i = 8
      · subst h9; simp
      · rw [if_neg (by omega), if_neg h8, if_neg h9]
set_option maxHeartbeats 2000000 in
set_option maxRecDepth 100000 in
theorem loadOf_any (page : Nat) (last : Bool) (A : Option Addr) (m c : Nat) (G : Nat → Nat) (w : World) (hp : page ≤ 9223372036854775807) (hb : Bytes w A m G) (hmc : m ≤ c) (hc : c ≤ 9223372036854775807) (hnil : A = none → c = 0) (hm : m ≤ 100000) :
    Calls Try.prog 60 #[.agg #[.int .i64 page, .slice A m c], .bool last] w fun e w' => ∃ A' c', e = .returned (.slice A' (9 + m) c') ∧ OwnB w' w.heap.size A' (9 + m) c' (loadF page last G) ∧ Below w.heap.size w w' := by
  have MK := Lib.hid (run_make_cap m hm)
  obtain ⟨W1, hW1⟩ : ∃ W1, W1 = w.alloc (.cells #[.int .i64 page, .slice A m c] 44) := ⟨_, rfl⟩
  have hz1 : W1.heap.size = w.heap.size + 1 := by rw [hW1]; simp
  have L1 := Lib.hid (show Below w.heap.size w W1 by rw [hW1]; exact (Below.refl _ _).alloc (Nat.le_refl _) _)
  have C1 := Lib.hid (show W1.cell? ⟨w.heap.size, 0, none⟩ = some (.int .i64 page) ∧ W1.cell? ⟨w.heap.size, 1, none⟩ = some (.slice A m c) by rw [hW1]; simp)
  obtain ⟨W2, hW2⟩ : ∃ W2, W2 = W1.alloc (.cells (madeCells #[.int .u8 0] (9 + m)) 5) := ⟨_, rfl⟩
  have R2 := Lib.hid (show BRow W2 W1.heap.size (9 + m) zeroF by rw [hW2]; exact BRow.made W1 (9 + m) (by omega))
  have L2 := Lib.hid (show Below W1.heap.size W1 W2 by rw [hW2]; exact (Below.refl _ _).alloc (Nat.le_refl _) _)
  have K2 := Lib.hid (show ∀ W : World, W2.grownBy W (some W1.heap.size) → W.cell? ⟨w.heap.size, 0, none⟩ = some (.int .i64 page) ∧ W.cell? ⟨w.heap.size, 1, none⟩ = some (.slice A m c) ∧ Below w.heap.size w W ∧ Bytes W A m G from fun W hg => by
    have hz2 : W2.heap.size = W1.heap.size + 1 := by rw [hW2]; simp
    have lW : Below W1.heap.size W1 W := L2.out.grown hg (by omega) (by rintro k ⟨⟩; exact Nat.le_refl _)
    have lw := L1.out.trans (lW.mono L1.out.size)
    exact ⟨(lW.cell (p := ⟨w.heap.size, 0, none⟩) (by rw [hz1]; exact Nat.lt_succ_self _)).trans C1.out.1, (lW.cell (p := ⟨w.heap.size, 1, none⟩) (by rw [hz1]; exact Nat.lt_succ_self _)).trans C1.out.2, lw, hb.below lw (Nat.le_refl _)⟩)
  have HW1 := Lib.hid hW1
  have HW2 := Lib.hid hW2
  have HZ := Lib.hid hz1
  have mk := MK.out W1
  obtain ⟨c0, c1⟩ := C1.out
  have hcm : (9 : Int) + m ≤ 9223372036854775807 := by omega
  clear hW1 hW2 hz1 hb
  go_enter Try.func60, Try.ntmps60
  go_upto_region 1 with (fail)
  rw [← HW1.out]
  obtain ⟨e0, e1, _, _⟩ := K2.out W2 (World.grownBy.refl W2 _)
  rw [HW2.out] at e0 e1
  go_wp2_with fail
  rw [← HW2.out]
  refine (put_any W1.heap.size 0 9 (9 + m) (9 + m) page zeroF W2 R2.out (by omega) (by omega) (by omega) (by omega) hp).mono ?_
  rintro e W3 ⟨rfl, b3, g3⟩
  have B3 := Lib.hid b3
  have G3 := Lib.hid g3
  clear mk c0 c1 e0 e1 b3 g3
  cases last
  · obtain ⟨d0, d1, l3, s3⟩ := K2.out _ G3.out
    have OW := Lib.hid (row_own (n := 9) (base := w.heap.size) B3.out (by omega) (by have := HZ.out; omega))
    have S3 := Lib.hid s3
    have Z3 := Lib.hid l3
    clear l3 s3
    go_wp2_with (at_builtin; refine wpList_append_bytes _ rfl (.tmp 18) (.tmp 20) 42 rfl Try.underlying42 u8info w.heap.size _ 9 (9 + m) _ rfl OW.out A m c G rfl S3.out hnil (by omega) Z3.out.size ?_)
    intro A' c' w' o1 g1 _
    have O1 := Lib.hid (o1.congr (load_eq page m false G))
    have L4 := Lib.hid (Z3.out.grown g1 Z3.out.size (by intro k hk; exact (OW.out.base_le hk).1))
    clear o1 g1 d0 d1
    go_wp2_with fail
    go_ret
    exact ⟨_, _, rfl, O1.out, L4.out⟩
  · have hc8 := B3.out.cell (i := 8) (by omega)
    have hf8 := B3.out.frozen 8
    have B4 := Lib.hid (B3.out.set_ 8 1 (by omega))
    have G4 := Lib.hid (G3.out.trans (grown_store W3 ⟨W1.heap.size, 8, none⟩ (.int .u8 1)))
    obtain ⟨d0, d1, l3, s3⟩ := K2.out _ G4.out
    have OW := Lib.hid (row_own (n := 9) (base := w.heap.size) B4.out (by omega) (by have := HZ.out; omega))
    have S3 := Lib.hid s3
    have Z3 := Lib.hid l3
    have h98 : (8 : Nat) < 9 := by omega
    clear l3 s3
    go_wp2_with (at_builtin; refine wpList_append_bytes _ rfl (.tmp 18) (.tmp 20) 42 rfl Try.underlying42 u8info w.heap.size _ 9 (9 + m) _ rfl OW.out A m c G rfl S3.out hnil (by omega) Z3.out.size ?_)
    intro A' c' w' o1 g1 _
    have O1 := Lib.hid (o1.congr (load_eq page m true G))
    have L4 := Lib.hid (Z3.out.grown g1 Z3.out.size (by intro k hk; exact (OW.out.base_le hk).1))
    clear o1 g1 d0 d1 hc8 hf8
    go_wp2_with fail
    go_ret
    exact ⟨_, _, rfl, O1.out, L4.out⟩
end Go.Proofs.Ytmeijienfdefjaa
