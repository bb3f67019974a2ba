/- the document's Sign: which sign stands at a place of a text. -/
import Derived.Test.YtoghdllppecblaaDoorQRefP
import Derived.Test.YtoghdllppecblaaDoorQGo
namespace Go.Proofs.YtoghdllppecblaaDoor
open Go.RowKit Go.Shelf
set_option linter.unusedVariables false
set_option linter.unusedSimpArgs false

open Lib (decodeN decodeL)
attribute [local go_sem] Oper.semAt_some
def sgB (m : Nat) (f : Nat → Nat) : Int × Nat := if decodeN m (f 0) (f 1) (f 2) (f 3) = (65533, 1) then (-1, 1) else (((decodeN m (f 0) (f 1) (f 2) (f 3)).1 : Nat), (decodeN m (f 0) (f 1) (f 2) (f 3)).2)
def sgV (r : Int × Nat) : Value := .tuple #[.int .i64 r.1, .int .i64 (r.2 : Nat)]
def ff (s : List UInt8) (k j : Nat) : Nat := (s.getD (k + j) 0).toNat
def acc (c0 : Int) (f : Nat → Nat) : Nat → Int
  | 0 => c0
  | j + 1 => 64 * acc c0 f j + (f (j + 1) : Nat) - 128
theorem acc_lt {c0 : Int} {f : Nat → Nat} {n : Nat} (h0 : 0 ≤ c0) (h1 : c0 ≤ 31) (hn : n ≤ 3) (hc : ∀ j, 1 ≤ j → j ≤ n → 128 ≤ f j ∧ f j < 192) : 0 ≤ acc c0 f n ∧ acc c0 f n ≤ 8388607 := by
  have hc1 := hc 1 (by omega)
  have hc2 := hc 2 (by omega)
  have hc3 := hc 3 (by omega)
  obtain rfl | rfl | rfl | rfl : n = 0 ∨ n = 1 ∨ n = 2 ∨ n = 3 := by omega
  · simp only [acc]; omega
  · have := hc1 (by omega); simp only [acc, Nat.zero_add]; omega
  · have := hc1 (by omega); have := hc2 (by omega); simp only [acc, Nat.zero_add, Nat.reduceAdd]; omega
  · have := hc1 (by omega); have := hc2 (by omega); have := hc3 (by omega); simp only [acc, Nat.zero_add, Nat.reduceAdd]; omega
theorem ff_lt (s : List UInt8) (k j : Nat) : ff s k j < 256 := (s.getD (k + j) 0).toNat_lt
theorem idx_f (s : List UInt8) (k j : Nat) (h : k + j < s.length) (w : World) : (Instr.index 9 (.string (mkB s)) (.int .i64 ((k : Int) + (j : Int)))).run Tryd.prog w = .ok (.int .u8 ((ff s k j : Nat) : Int)) w := by
  have hb : s[k + j]? = some (s.getD (k + j) 0) := by rw [List.getElem?_eq_getElem h]; simp [List.getD, h]
  have := str_index s w (k + j) _ hb
  rw [Int.natCast_add] at this
  exact this
theorem sgB_ascii {m : Nat} {f : Nat → Nat} (h : f 0 < 128) : sgB m f = (((f 0 : Nat) : Int), 1) := by
  unfold sgB
  rw [dN1 h, if_neg]
  intro e
  injection e
  omega
theorem sgB_bad {m : Nat} {f : Nat → Nat} (h : decodeN m (f 0) (f 1) (f 2) (f 3) = (65533, 1)) : sgB m f = (-1, 1) := by
  unfold sgB
  rw [if_pos h]
theorem bad_lead {m : Nat} {f : Nat → Nat} (h : 128 ≤ f 0) (h2 : f 0 < 194 ∨ 245 ≤ f 0) (hl : f 0 < 256) : sgB m f = (-1, 1) := by
  apply sgB_bad
  rcases Lib.decodeN_shape m (f 0) (f 1) (f 2) (f 3) with ⟨c, e⟩ | ⟨d1, d2, d3, cv, e⟩ | ⟨d1, d2, d3, d4, cv, cs, e⟩ | ⟨d1, d2, d3, d4, d5, cv, cw, e⟩ | e
  · exfalso; omega
  · exfalso; omega
  · exfalso; omega
  · exfalso; omega
  · exact e
theorem bad2_short {m : Nat} {f : Nat → Nat} (h1 : 194 ≤ f 0) (h2 : f 0 < 224) (h : m ≤ 1) : sgB m f = (-1, 1) := by
  apply sgB_bad
  rcases Lib.decodeN_shape m (f 0) (f 1) (f 2) (f 3) with ⟨c, e⟩ | ⟨d1, d2, d3, cv, e⟩ | ⟨d1, d2, d3, d4, cv, cs, e⟩ | ⟨d1, d2, d3, d4, d5, cv, cw, e⟩ | e
  · exfalso; omega
  · exfalso; omega
  · exfalso; omega
  · exfalso; omega
  · exact e
theorem bad2_cont {m : Nat} {f : Nat → Nat} (h1 : 194 ≤ f 0) (h2 : f 0 < 224) (j : Nat) (hj : 1 ≤ j) (hj2 : j ≤ 1) (h : f j < 128 ∨ 192 ≤ f j) : sgB m f = (-1, 1) := by
  obtain rfl : j = 1 := by omega
  · apply sgB_bad
    rcases Lib.decodeN_shape m (f 0) (f 1) (f 2) (f 3) with ⟨c, e⟩ | ⟨d1, d2, d3, cv, e⟩ | ⟨d1, d2, d3, d4, cv, cs, e⟩ | ⟨d1, d2, d3, d4, d5, cv, cw, e⟩ | e
    · exfalso; omega
    · exfalso; omega
    · exfalso; omega
    · exfalso; omega
    · exact e
theorem good2 {m : Nat} {f : Nat → Nat} (h1 : 194 ≤ f 0) (h2 : f 0 < 224) (c1 : 128 ≤ f 1 ∧ f 1 < 192) (hm : 1 < m)  : sgB m f = (acc ((f 0 : Nat) - 192 : Int) f 1, 2) := by
  simp only [acc, Nat.zero_add, Nat.reduceAdd]
  unfold sgB
  rw [dN2 (by omega) hm (by omega) (by omega), if_neg (by intro e; injection e with _ e; omega)]
  dsimp only
  congr 1
  omega
theorem bad3_short {m : Nat} {f : Nat → Nat} (h1 : 224 ≤ f 0) (h2 : f 0 < 240) (h : m ≤ 2) : sgB m f = (-1, 1) := by
  apply sgB_bad
  rcases Lib.decodeN_shape m (f 0) (f 1) (f 2) (f 3) with ⟨c, e⟩ | ⟨d1, d2, d3, cv, e⟩ | ⟨d1, d2, d3, d4, cv, cs, e⟩ | ⟨d1, d2, d3, d4, d5, cv, cw, e⟩ | e
  · exfalso; omega
  · exfalso; omega
  · exfalso; omega
  · exfalso; omega
  · exact e
theorem bad3_cont {m : Nat} {f : Nat → Nat} (h1 : 224 ≤ f 0) (h2 : f 0 < 240) (j : Nat) (hj : 1 ≤ j) (hj2 : j ≤ 2) (h : f j < 128 ∨ 192 ≤ f j) : sgB m f = (-1, 1) := by
  obtain rfl | rfl : j = 1 ∨ j = 2 := by omega
  · apply sgB_bad
    rcases Lib.decodeN_shape m (f 0) (f 1) (f 2) (f 3) with ⟨c, e⟩ | ⟨d1, d2, d3, cv, e⟩ | ⟨d1, d2, d3, d4, cv, cs, e⟩ | ⟨d1, d2, d3, d4, d5, cv, cw, e⟩ | e
    · exfalso; omega
    · exfalso; omega
    · exfalso; omega
    · exfalso; omega
    · exact e
  · apply sgB_bad
    rcases Lib.decodeN_shape m (f 0) (f 1) (f 2) (f 3) with ⟨c, e⟩ | ⟨d1, d2, d3, cv, e⟩ | ⟨d1, d2, d3, d4, cv, cs, e⟩ | ⟨d1, d2, d3, d4, d5, cv, cw, e⟩ | e
    · exfalso; omega
    · exfalso; omega
    · exfalso; omega
    · exfalso; omega
    · exact e
theorem bad3_val {m : Nat} {f : Nat → Nat} (h1 : 224 ≤ f 0) (h2 : f 0 < 240) (c1 : 128 ≤ f 1 ∧ f 1 < 192) (c2 : 128 ≤ f 2 ∧ f 2 < 192) (h : acc ((f 0 : Nat) - 224 : Int) f 2 < 2048 ∨ 1114111 < acc ((f 0 : Nat) - 224 : Int) f 2 ∨ (55296 ≤ acc ((f 0 : Nat) - 224 : Int) f 2 ∧ acc ((f 0 : Nat) - 224 : Int) f 2 < 57344)) : sgB m f = (-1, 1) := by
  simp only [acc, Nat.zero_add, Nat.reduceAdd] at h
  apply sgB_bad
  rcases Lib.decodeN_shape m (f 0) (f 1) (f 2) (f 3) with ⟨c, e⟩ | ⟨d1, d2, d3, cv, e⟩ | ⟨d1, d2, d3, d4, cv, cs, e⟩ | ⟨d1, d2, d3, d4, d5, cv, cw, e⟩ | e
  · exfalso; omega
  · exfalso; omega
  · exfalso; omega
  · exfalso; omega
  · exact e
theorem good3 {m : Nat} {f : Nat → Nat} (h1 : 224 ≤ f 0) (h2 : f 0 < 240) (c1 : 128 ≤ f 1 ∧ f 1 < 192) (c2 : 128 ≤ f 2 ∧ f 2 < 192) (hm : 2 < m) (v1 : 2048 ≤ acc ((f 0 : Nat) - 224 : Int) f 2) (v2 : acc ((f 0 : Nat) - 224 : Int) f 2 ≤ 1114111) (v3 : acc ((f 0 : Nat) - 224 : Int) f 2 < 55296 ∨ 57344 ≤ acc ((f 0 : Nat) - 224 : Int) f 2) : sgB m f = (acc ((f 0 : Nat) - 224 : Int) f 2, 3) := by
  simp only [acc, Nat.zero_add, Nat.reduceAdd] at v1 v2 v3 ⊢
  unfold sgB
  rw [dN3 (by omega) hm (by omega) (by omega) (by omega) (by omega), if_neg (by intro e; injection e with _ e; omega)]
  dsimp only
  congr 1
  omega
theorem bad4_short {m : Nat} {f : Nat → Nat} (h1 : 240 ≤ f 0) (h2 : f 0 < 245) (h : m ≤ 3) : sgB m f = (-1, 1) := by
  apply sgB_bad
  rcases Lib.decodeN_shape m (f 0) (f 1) (f 2) (f 3) with ⟨c, e⟩ | ⟨d1, d2, d3, cv, e⟩ | ⟨d1, d2, d3, d4, cv, cs, e⟩ | ⟨d1, d2, d3, d4, d5, cv, cw, e⟩ | e
  · exfalso; omega
  · exfalso; omega
  · exfalso; omega
  · exfalso; omega
  · exact e
theorem bad4_cont {m : Nat} {f : Nat → Nat} (h1 : 240 ≤ f 0) (h2 : f 0 < 245) (j : Nat) (hj : 1 ≤ j) (hj2 : j ≤ 3) (h : f j < 128 ∨ 192 ≤ f j) : sgB m f = (-1, 1) := by
  obtain rfl | rfl | rfl : j = 1 ∨ j = 2 ∨ j = 3 := by omega
  · apply sgB_bad
    rcases Lib.decodeN_shape m (f 0) (f 1) (f 2) (f 3) with ⟨c, e⟩ | ⟨d1, d2, d3, cv, e⟩ | ⟨d1, d2, d3, d4, cv, cs, e⟩ | ⟨d1, d2, d3, d4, d5, cv, cw, e⟩ | e
    · exfalso; omega
    · exfalso; omega
    · exfalso; omega
    · exfalso; omega
    · exact e
  · apply sgB_bad
    rcases Lib.decodeN_shape m (f 0) (f 1) (f 2) (f 3) with ⟨c, e⟩ | ⟨d1, d2, d3, cv, e⟩ | ⟨d1, d2, d3, d4, cv, cs, e⟩ | ⟨d1, d2, d3, d4, d5, cv, cw, e⟩ | e
    · exfalso; omega
    · exfalso; omega
    · exfalso; omega
    · exfalso; omega
    · exact e
  · apply sgB_bad
    rcases Lib.decodeN_shape m (f 0) (f 1) (f 2) (f 3) with ⟨c, e⟩ | ⟨d1, d2, d3, cv, e⟩ | ⟨d1, d2, d3, d4, cv, cs, e⟩ | ⟨d1, d2, d3, d4, d5, cv, cw, e⟩ | e
    · exfalso; omega
    · exfalso; omega
    · exfalso; omega
    · exfalso; omega
    · exact e
theorem bad4_val {m : Nat} {f : Nat → Nat} (h1 : 240 ≤ f 0) (h2 : f 0 < 245) (c1 : 128 ≤ f 1 ∧ f 1 < 192) (c2 : 128 ≤ f 2 ∧ f 2 < 192) (c3 : 128 ≤ f 3 ∧ f 3 < 192) (h : acc ((f 0 : Nat) - 240 : Int) f 3 < 65536 ∨ 1114111 < acc ((f 0 : Nat) - 240 : Int) f 3 ∨ (55296 ≤ acc ((f 0 : Nat) - 240 : Int) f 3 ∧ acc ((f 0 : Nat) - 240 : Int) f 3 < 57344)) : sgB m f = (-1, 1) := by
  simp only [acc, Nat.zero_add, Nat.reduceAdd] at h
  apply sgB_bad
  rcases Lib.decodeN_shape m (f 0) (f 1) (f 2) (f 3) with ⟨c, e⟩ | ⟨d1, d2, d3, cv, e⟩ | ⟨d1, d2, d3, d4, cv, cs, e⟩ | ⟨d1, d2, d3, d4, d5, cv, cw, e⟩ | e
  · exfalso; omega
  · exfalso; omega
  · exfalso; omega
  · exfalso; omega
  · exact e
theorem good4 {m : Nat} {f : Nat → Nat} (h1 : 240 ≤ f 0) (h2 : f 0 < 245) (c1 : 128 ≤ f 1 ∧ f 1 < 192) (c2 : 128 ≤ f 2 ∧ f 2 < 192) (c3 : 128 ≤ f 3 ∧ f 3 < 192) (hm : 3 < m) (v1 : 65536 ≤ acc ((f 0 : Nat) - 240 : Int) f 3) (v2 : acc ((f 0 : Nat) - 240 : Int) f 3 ≤ 1114111) (v3 : acc ((f 0 : Nat) - 240 : Int) f 3 < 55296 ∨ 57344 ≤ acc ((f 0 : Nat) - 240 : Int) f 3) : sgB m f = (acc ((f 0 : Nat) - 240 : Int) f 3, 4) := by
  simp only [acc, Nat.zero_add, Nat.reduceAdd] at v1 v2 v3 ⊢
  unfold sgB
  rw [dN4 (by omega) hm (by omega) (by omega) (by omega) (by omega) (by omega), if_neg (by intro e; injection e with _ e; omega)]
  dsimp only
  congr 1
  omega
set_option maxRecDepth 100000 in
set_option maxHeartbeats 4000000 in
theorem sign_one (s : List UInt8) (hs : s.length ≤ 100000) (k : Nat) (hk : k < s.length) (hc : ff s k 0 < 128) (w : World) : Calls Tryd.prog 24 #[.string (mkB s), .int .i64 (k : Int)] w fun e w' => e = .returned (sgV (sgB (s.length - k) (ff s k))) ∧ w' = w := by
  have hix0 := str_index s w k (s.getD k 0) (by rw [List.getElem?_eq_getElem hk]; simp [List.getD, hk])
  rw [show ((s.getD k 0).toNat : Nat) = ff s k 0 from rfl] at hix0
  have HIx := Lib.hid (fun j h W => idx_f s k j h W)
  have hsz : (mkB s).size = s.length := mkB_size s
  have h256 := ff_lt s k
  obtain ⟨f, hf⟩ : ∃ f, f = ff s k := ⟨_, rfl⟩
  rw [← hf] at HIx hix0 h256 ⊢
  rw [← hf] at hc
  obtain ⟨S, hS⟩ : ∃ S, S = mkB s := ⟨_, rfl⟩
  rw [← hS] at HIx hix0 hsz ⊢
  obtain ⟨L, hL⟩ : ∃ L, L = s.length := ⟨_, rfl⟩
  rw [← hL] at HIx hsz hs hk ⊢
  clear hS hf hL
  have hx0 := h256 0
  obtain ⟨x0, hx⟩ : ∃ x0 : Int, x0 = ((f 0 : Nat) : Int) := ⟨_, rfl⟩
  rw [← hx] at hix0
  have hwx : IntKind.i64.wrap x0 = x0 := IntWalk.i64_in _ (by omega)
  have q0 : x0 < 128 := by omega
  have HE := Lib.hid (show sgB (L - k) f = (x0, 1) by rw [hx]; exact sgB_ascii hc)
  clear hx hc hx0
  refine (callsIn_wide (n := 5)).1 ?_
  refine callsIn_of_wp Tryd.func24 rfl trivial ?_ rfl
  simp only [Tryd.ntmps24, List.size_toArray, List.length_cons, List.length_nil, Nat.reduceAdd, Nat.reduceSub, Array.replicate_succ, Array.replicate_zero, List.push_toArray, List.append_toArray, List.nil_append, List.cons_append]
  gi_wp2_with (refine opIn_index _ _ _ rfl _ hix0 ?_)
  go_ret2
  exact ⟨by rw [HE.out]; rfl, rfl⟩
set_option maxRecDepth 100000 in
set_option maxHeartbeats 4000000 in
theorem sign_lone (s : List UInt8) (hs : s.length ≤ 100000) (k : Nat) (hk : k < s.length) (hc : 128 ≤ ff s k 0) (hc2 : ff s k 0 < 194 ∨ 245 ≤ ff s k 0) (w : World) : Calls Tryd.prog 24 #[.string (mkB s), .int .i64 (k : Int)] w fun e w' => e = .returned (sgV (sgB (s.length - k) (ff s k))) ∧ w' = w := by
  have hix0 := str_index s w k (s.getD k 0) (by rw [List.getElem?_eq_getElem hk]; simp [List.getD, hk])
  rw [show ((s.getD k 0).toNat : Nat) = ff s k 0 from rfl] at hix0
  have HIx := Lib.hid (fun j h W => idx_f s k j h W)
  have hsz : (mkB s).size = s.length := mkB_size s
  have h256 := ff_lt s k
  obtain ⟨f, hf⟩ : ∃ f, f = ff s k := ⟨_, rfl⟩
  rw [← hf] at HIx hix0 h256 ⊢
  rw [← hf] at hc hc2
  obtain ⟨S, hS⟩ : ∃ S, S = mkB s := ⟨_, rfl⟩
  rw [← hS] at HIx hix0 hsz ⊢
  obtain ⟨L, hL⟩ : ∃ L, L = s.length := ⟨_, rfl⟩
  rw [← hL] at HIx hsz hs hk ⊢
  clear hS hf hL
  have hx0 := h256 0
  obtain ⟨x0, hx⟩ : ∃ x0 : Int, x0 = ((f 0 : Nat) : Int) := ⟨_, rfl⟩
  rw [← hx] at hix0
  have hwx : IntKind.i64.wrap x0 = x0 := IntWalk.i64_in _ (by omega)
  have q0 : ¬ x0 < 128 := by omega
  have HE := Lib.hid (show sgB (L - k) f = (-1, 1) from bad_lead hc hc2 hx0)
  rcases hc2 with hc2 | hc2
  · have q1 : ¬ (194 : Int) ≤ x0 := by omega
    have q2 : ¬ (224 : Int) ≤ x0 := by omega
    have q3 : ¬ (240 : Int) ≤ x0 := by omega
    clear hx hc hx0 hc2
    refine (callsIn_wide (n := 5)).1 ?_
    refine callsIn_of_wp Tryd.func24 rfl trivial ?_ rfl
    simp only [Tryd.ntmps24, List.size_toArray, List.length_cons, List.length_nil, Nat.reduceAdd, Nat.reduceSub, Array.replicate_succ, Array.replicate_zero, List.push_toArray, List.append_toArray, List.nil_append, List.cons_append]
    gi_wp2_with (refine opIn_index _ _ _ rfl _ hix0 ?_)
    go_ret2
    exact ⟨by rw [HE.out]; rfl, rfl⟩
  · have q1 : (194 : Int) ≤ x0 := by omega
    have q2 : (224 : Int) ≤ x0 := by omega
    have q3 : (240 : Int) ≤ x0 := by omega
    have q4 : ¬ x0 < 224 := by omega
    have q5 : ¬ x0 < 240 := by omega
    have q6 : ¬ x0 < 245 := by omega
    clear hx hc hx0 hc2
    refine (callsIn_wide (n := 5)).1 ?_
    refine callsIn_of_wp Tryd.func24 rfl trivial ?_ rfl
    simp only [Tryd.ntmps24, List.size_toArray, List.length_cons, List.length_nil, Nat.reduceAdd, Nat.reduceSub, Array.replicate_succ, Array.replicate_zero, List.push_toArray, List.append_toArray, List.nil_append, List.cons_append]
    gi_wp2_with (refine opIn_index _ _ _ rfl _ hix0 ?_)
    go_ret2
    exact ⟨by rw [HE.out]; rfl, rfl⟩
set_option maxRecDepth 100000 in
set_option maxHeartbeats 4000000 in
theorem sign_2 (s : List UInt8) (hs : s.length ≤ 100000) (k : Nat) (hk : k < s.length) (hc : 194 ≤ ff s k 0) (hc2 : ff s k 0 < 224) (w : World) : Calls Tryd.prog 24 #[.string (mkB s), .int .i64 (k : Int)] w fun e w' => e = .returned (sgV (sgB (s.length - k) (ff s k))) ∧ w' = w := by
  have hix0 := str_index s w k (s.getD k 0) (by rw [List.getElem?_eq_getElem hk]; simp [List.getD, hk])
  rw [show ((s.getD k 0).toNat : Nat) = ff s k 0 from rfl] at hix0
  have HIx := Lib.hid (fun j h W => idx_f s k j h W)
  have hsz : (mkB s).size = s.length := mkB_size s
  have h256 := ff_lt s k
  obtain ⟨f, hf⟩ : ∃ f, f = ff s k := ⟨_, rfl⟩
  rw [← hf] at HIx hix0 h256 ⊢
  rw [← hf] at hc hc2
  obtain ⟨S, hS⟩ : ∃ S, S = mkB s := ⟨_, rfl⟩
  rw [← hS] at HIx hix0 hsz ⊢
  obtain ⟨L, hL⟩ : ∃ L, L = s.length := ⟨_, rfl⟩
  rw [← hL] at HIx hsz hs hk ⊢
  clear hS hf hL
  have hx0 := h256 0
  obtain ⟨x0, hx⟩ : ∃ x0 : Int, x0 = ((f 0 : Nat) : Int) := ⟨_, rfl⟩
  rw [← hx] at hix0
  have hwx : IntKind.i64.wrap x0 = x0 := IntWalk.i64_in _ (by omega)
  have q0 : ¬ x0 < 128 := by omega
  have q1 : (194 : Int) ≤ x0 := by omega
  have q2 : x0 < 224 := by omega
  have hws : IntKind.i64.wrap (x0 - 192) = x0 - 192 := IntWalk.i64_in _ (by omega)
  have hwl : IntKind.i64.wrap ((S.size : Int) - (k : Int)) = (S.size : Int) - (k : Int) := IntWalk.i64_in _ (by omega)
  have HX := Lib.hid hx
  have HC := Lib.hid hc
  have HC2 := Lib.hid hc2
  have H256 := Lib.hid h256
  by_cases hm : L - k ≤ 1
  · have q8 : (S.size : Int) - (k : Int) ≤ 1 := by omega
    have HE := Lib.hid (show sgB (L - k) f = (-1, 1) from bad2_short hc hc2 hm)
    clear hx hc hx0 hc2 hm h256
    refine (callsIn_wide (n := 5)).1 ?_
    refine callsIn_of_wp Tryd.func24 rfl trivial ?_ rfl
    simp only [Tryd.ntmps24, List.size_toArray, List.length_cons, List.length_nil, Nat.reduceAdd, Nat.reduceSub, Array.replicate_succ, Array.replicate_zero, List.push_toArray, List.append_toArray, List.nil_append, List.cons_append]
    gi_wp2_with (refine opIn_index _ _ _ rfl _ hix0 ?_)
    go_ret2
    exact ⟨by rw [HE.out]; rfl, rfl⟩
  · have q8 : ¬ (S.size : Int) - (k : Int) ≤ 1 := by omega
    have HM := Lib.hid hm
    have HSz := Lib.hid hsz
    clear hx hc hx0 hc2 hm h256
    refine (callsIn_wide (n := 5)).1 ?_
    refine callsIn_of_wp Tryd.func24 rfl trivial ?_ rfl
    simp only [Tryd.ntmps24, List.size_toArray, List.length_cons, List.length_nil, Nat.reduceAdd, Nat.reduceSub, Array.replicate_succ, Array.replicate_zero, List.push_toArray, List.append_toArray, List.nil_append, List.cons_append]
    gi_wp2_with (refine opIn_index _ _ _ rfl _ hix0 ?_)
    gi_loopw [6, 9] (fun c i wr => (∃ j : Nat, 1 ≤ j ∧ j ≤ 2 ∧ (∀ j', 1 ≤ j' → j' < j → 128 ≤ f j' ∧ f j' < 192) ∧ c = .int .i64 (acc (((f 0 : Nat) : Int) - 192) f (j - 1)) ∧ i = .int .i64 (j : Int)) ∧ wr = w) (fun _ i _ => 5 - (intOf i).toNat)
    case atStart => exact ⟨⟨1, by omega, by omega, fun j' a b => by omega, by first | (rw [HX.out]; rfl) | (rw [← HX.out]; rfl) | simp [acc, HX.out], rfl⟩, rfl⟩
    case round =>
      obtain ⟨⟨j, hj1, hj2, hcs, rfl, rfl⟩, rfl⟩ := hrel
      have hx := HX.out
      have hc := HC.out
      have hc2 := HC2.out
      have hb := acc_lt (c0 := ((f 0 : Nat) : Int) - 192) (f := f) (n := j - 1) (by omega) (by omega) (by omega) (fun j' a b => hcs j' a (by omega))
      have hm := HM.out
      have hsz := HSz.out
      by_cases hle : j ≤ 1
      · have r0 : (j : Int) ≤ 1 := by omega
        have hxj := H256.out j
        have hix := HIx.out j (by omega) wr
        have hwk : IntKind.i64.wrap ((k : Int) + (j : Int)) = (k : Int) + (j : Int) := IntWalk.i64_in _ (by omega)
        obtain ⟨x, hxe⟩ : ∃ x : Int, x = ((f j : Nat) : Int) := ⟨_, rfl⟩
        rw [← hxe] at hix
        have hwx1 : IntKind.i64.wrap x = x := IntWalk.i64_in _ (by omega)
        by_cases c1 : f j < 128
        · have r1 : x < 128 := by omega
          have HE := Lib.hid (show sgB (L - k) f = (-1, 1) from bad2_cont hc hc2 j hj1 hle (.inl c1))
          clear hx hc hc2 hb hm hsz hle hxj hxe c1 hcs
          gi_wp2_with (refine opIn_index _ _ _ rfl _ hix ?_)
          go_ret2
          exact ⟨by rw [HE.out]; rfl, rfl⟩
        · have r1 : ¬ x < 128 := by omega
          by_cases c2 : 192 ≤ f j
          · have r2 : (192 : Int) ≤ x := by omega
            have HE := Lib.hid (show sgB (L - k) f = (-1, 1) from bad2_cont hc hc2 j hj1 hle (.inr c2))
            clear hx hc hc2 hb hm hsz hle hxj hxe c1 c2 hcs
            gi_wp2_with (refine opIn_index _ _ _ rfl _ hix ?_)
            go_ret2
            exact ⟨by rw [HE.out]; rfl, rfl⟩
          · have r2 : ¬ (192 : Int) ≤ x := by omega
            have hcs2 : ∀ j', 1 ≤ j' → j' < j + 1 → 128 ≤ f j' ∧ f j' < 192 := fun j' a b => by
              by_cases e : j' = j
              · subst e; omega
              · exact hcs j' a (by omega)
            have HCs := Lib.hid hcs2
            have HN := Lib.hid (show acc (((f 0 : Nat) : Int) - 192) f (j + 1 - 1) = 64 * acc (((f 0 : Nat) : Int) - 192) f (j - 1) + x - 128 by
              rw [hxe]
              obtain ⟨j', rfl⟩ : ∃ j', j = j' + 1 := ⟨j - 1, by omega⟩
              rfl)
            have HJ := Lib.hid (And.intro hj1 hle)
            obtain ⟨c, hce⟩ : ∃ c, c = acc (((f 0 : Nat) : Int) - 192) f (j - 1) := ⟨_, rfl⟩
            rw [← hce] at HN hb ⊢
            have hw1 : IntKind.i64.wrap (64 * c) = 64 * c := IntWalk.i64_in _ (by omega)
            have hw2 : IntKind.i64.wrap (64 * c + x) = 64 * c + x := IntWalk.i64_in _ (by omega)
            have hw3 : IntKind.i64.wrap (64 * c + x - 128) = 64 * c + x - 128 := IntWalk.i64_in _ (by omega)
            have hw4 : IntKind.i64.wrap ((j : Int) + 1) = (j : Int) + 1 := IntWalk.i64_in _ (by omega)
            clear hx hc hc2 hb hm hsz hle hxj hxe c1 c2 hcs hcs2 hce
            gi_wp2_with (refine opIn_index _ _ _ rfl _ hix ?_)
            exact ⟨⟨⟨j + 1, by have := HJ.out; omega, by have := HJ.out; omega, HCs.out, by rw [HN.out], rfl⟩, (by simp)⟩, by have := HJ.out; simp [intOf]; omega⟩
      · obtain rfl : j = 2 := by omega
        have r0 : ¬ (((2 : Nat) : Int)) ≤ 1 := by omega
        have r0' : ¬ (2 : Int) ≤ 1 := by omega
        obtain ⟨z, hz⟩ : ∃ z, z = acc (((f 0 : Nat) : Int) - 192) f 1 := ⟨_, rfl⟩
        have hb2 := hb
        rw [show 2 - 1 = 1 from rfl, ← hz] at hb2
        rw [show 2 - 1 = 1 from rfl, ← hz]
        have ha := hcs 1 (by omega) (by omega)
        have hzz : z = 64 * (((f 0 : Nat) : Int) - 192) + ((f 1 : Nat) : Int) - 128 := by rw [hz]; rfl
        have v0 : ¬ z < 128 := by omega
        have v1 : ¬ (1114111 : Int) < z := by omega
        have v2 : ¬ (55296 : Int) ≤ z := by omega
        have v3 : z < 57344 := by omega
        have HE := Lib.hid (show sgB (L - k) f = (z, 2) by rw [hz]; exact good2 hc hc2 (hcs 1 (by omega) (by omega)) (by omega))
        clear hx hc hc2 hb hm hsz hle hcs hb2 ha hzz hz
        gi_wp2
        go_ret2
        exact ⟨by rw [HE.out]; rfl, rfl⟩
set_option maxRecDepth 100000 in
set_option maxHeartbeats 4000000 in
theorem sign_3 (s : List UInt8) (hs : s.length ≤ 100000) (k : Nat) (hk : k < s.length) (hc : 224 ≤ ff s k 0) (hc2 : ff s k 0 < 240) (w : World) : Calls Tryd.prog 24 #[.string (mkB s), .int .i64 (k : Int)] w fun e w' => e = .returned (sgV (sgB (s.length - k) (ff s k))) ∧ w' = w := by
  have hix0 := str_index s w k (s.getD k 0) (by rw [List.getElem?_eq_getElem hk]; simp [List.getD, hk])
  rw [show ((s.getD k 0).toNat : Nat) = ff s k 0 from rfl] at hix0
  have HIx := Lib.hid (fun j h W => idx_f s k j h W)
  have hsz : (mkB s).size = s.length := mkB_size s
  have h256 := ff_lt s k
  obtain ⟨f, hf⟩ : ∃ f, f = ff s k := ⟨_, rfl⟩
  rw [← hf] at HIx hix0 h256 ⊢
  rw [← hf] at hc hc2
  obtain ⟨S, hS⟩ : ∃ S, S = mkB s := ⟨_, rfl⟩
  rw [← hS] at HIx hix0 hsz ⊢
  obtain ⟨L, hL⟩ : ∃ L, L = s.length := ⟨_, rfl⟩
  rw [← hL] at HIx hsz hs hk ⊢
  clear hS hf hL
  have hx0 := h256 0
  obtain ⟨x0, hx⟩ : ∃ x0 : Int, x0 = ((f 0 : Nat) : Int) := ⟨_, rfl⟩
  rw [← hx] at hix0
  have hwx : IntKind.i64.wrap x0 = x0 := IntWalk.i64_in _ (by omega)
  have q0 : ¬ x0 < 128 := by omega
  have q1 : (194 : Int) ≤ x0 := by omega
  have q2 : ¬ x0 < 224 := by omega
  have q3 : (224 : Int) ≤ x0 := by omega
  have q4 : x0 < 240 := by omega
  have hws : IntKind.i64.wrap (x0 - 224) = x0 - 224 := IntWalk.i64_in _ (by omega)
  have hwl : IntKind.i64.wrap ((S.size : Int) - (k : Int)) = (S.size : Int) - (k : Int) := IntWalk.i64_in _ (by omega)
  have HX := Lib.hid hx
  have HC := Lib.hid hc
  have HC2 := Lib.hid hc2
  have H256 := Lib.hid h256
  by_cases hm : L - k ≤ 2
  · have q8 : (S.size : Int) - (k : Int) ≤ 2 := by omega
    have HE := Lib.hid (show sgB (L - k) f = (-1, 1) from bad3_short hc hc2 hm)
    clear hx hc hx0 hc2 hm h256
    refine (callsIn_wide (n := 5)).1 ?_
    refine callsIn_of_wp Tryd.func24 rfl trivial ?_ rfl
    simp only [Tryd.ntmps24, List.size_toArray, List.length_cons, List.length_nil, Nat.reduceAdd, Nat.reduceSub, Array.replicate_succ, Array.replicate_zero, List.push_toArray, List.append_toArray, List.nil_append, List.cons_append]
    gi_wp2_with (refine opIn_index _ _ _ rfl _ hix0 ?_)
    go_ret2
    exact ⟨by rw [HE.out]; rfl, rfl⟩
  · have q8 : ¬ (S.size : Int) - (k : Int) ≤ 2 := by omega
    have HM := Lib.hid hm
    have HSz := Lib.hid hsz
    clear hx hc hx0 hc2 hm h256
    refine (callsIn_wide (n := 5)).1 ?_
    refine callsIn_of_wp Tryd.func24 rfl trivial ?_ rfl
    simp only [Tryd.ntmps24, List.size_toArray, List.length_cons, List.length_nil, Nat.reduceAdd, Nat.reduceSub, Array.replicate_succ, Array.replicate_zero, List.push_toArray, List.append_toArray, List.nil_append, List.cons_append]
    gi_wp2_with (refine opIn_index _ _ _ rfl _ hix0 ?_)
    gi_loopw [6, 9] (fun c i wr => (∃ j : Nat, 1 ≤ j ∧ j ≤ 3 ∧ (∀ j', 1 ≤ j' → j' < j → 128 ≤ f j' ∧ f j' < 192) ∧ c = .int .i64 (acc (((f 0 : Nat) : Int) - 224) f (j - 1)) ∧ i = .int .i64 (j : Int)) ∧ wr = w) (fun _ i _ => 5 - (intOf i).toNat)
    case atStart => exact ⟨⟨1, by omega, by omega, fun j' a b => by omega, by first | (rw [HX.out]; rfl) | (rw [← HX.out]; rfl) | simp [acc, HX.out], rfl⟩, rfl⟩
    case round =>
      obtain ⟨⟨j, hj1, hj2, hcs, rfl, rfl⟩, rfl⟩ := hrel
      have hx := HX.out
      have hc := HC.out
      have hc2 := HC2.out
      have hb := acc_lt (c0 := ((f 0 : Nat) : Int) - 224) (f := f) (n := j - 1) (by omega) (by omega) (by omega) (fun j' a b => hcs j' a (by omega))
      have hm := HM.out
      have hsz := HSz.out
      by_cases hle : j ≤ 2
      · have r0 : (j : Int) ≤ 2 := by omega
        have hxj := H256.out j
        have hix := HIx.out j (by omega) wr
        have hwk : IntKind.i64.wrap ((k : Int) + (j : Int)) = (k : Int) + (j : Int) := IntWalk.i64_in _ (by omega)
        obtain ⟨x, hxe⟩ : ∃ x : Int, x = ((f j : Nat) : Int) := ⟨_, rfl⟩
        rw [← hxe] at hix
        have hwx1 : IntKind.i64.wrap x = x := IntWalk.i64_in _ (by omega)
        by_cases c1 : f j < 128
        · have r1 : x < 128 := by omega
          have HE := Lib.hid (show sgB (L - k) f = (-1, 1) from bad3_cont hc hc2 j hj1 hle (.inl c1))
          clear hx hc hc2 hb hm hsz hle hxj hxe c1 hcs
          gi_wp2_with (refine opIn_index _ _ _ rfl _ hix ?_)
          go_ret2
          exact ⟨by rw [HE.out]; rfl, rfl⟩
        · have r1 : ¬ x < 128 := by omega
          by_cases c2 : 192 ≤ f j
          · have r2 : (192 : Int) ≤ x := by omega
            have HE := Lib.hid (show sgB (L - k) f = (-1, 1) from bad3_cont hc hc2 j hj1 hle (.inr c2))
            clear hx hc hc2 hb hm hsz hle hxj hxe c1 c2 hcs
            gi_wp2_with (refine opIn_index _ _ _ rfl _ hix ?_)
            go_ret2
            exact ⟨by rw [HE.out]; rfl, rfl⟩
          · have r2 : ¬ (192 : Int) ≤ x := by omega
            have hcs2 : ∀ j', 1 ≤ j' → j' < j + 1 → 128 ≤ f j' ∧ f j' < 192 := fun j' a b => by
              by_cases e : j' = j
              · subst e; omega
              · exact hcs j' a (by omega)
            have HCs := Lib.hid hcs2
            have HN := Lib.hid (show acc (((f 0 : Nat) : Int) - 224) f (j + 1 - 1) = 64 * acc (((f 0 : Nat) : Int) - 224) f (j - 1) + x - 128 by
              rw [hxe]
              obtain ⟨j', rfl⟩ : ∃ j', j = j' + 1 := ⟨j - 1, by omega⟩
              rfl)
            have HJ := Lib.hid (And.intro hj1 hle)
            obtain ⟨c, hce⟩ : ∃ c, c = acc (((f 0 : Nat) : Int) - 224) f (j - 1) := ⟨_, rfl⟩
            rw [← hce] at HN hb ⊢
            have hw1 : IntKind.i64.wrap (64 * c) = 64 * c := IntWalk.i64_in _ (by omega)
            have hw2 : IntKind.i64.wrap (64 * c + x) = 64 * c + x := IntWalk.i64_in _ (by omega)
            have hw3 : IntKind.i64.wrap (64 * c + x - 128) = 64 * c + x - 128 := IntWalk.i64_in _ (by omega)
            have hw4 : IntKind.i64.wrap ((j : Int) + 1) = (j : Int) + 1 := IntWalk.i64_in _ (by omega)
            clear hx hc hc2 hb hm hsz hle hxj hxe c1 c2 hcs hcs2 hce
            gi_wp2_with (refine opIn_index _ _ _ rfl _ hix ?_)
            exact ⟨⟨⟨j + 1, by have := HJ.out; omega, by have := HJ.out; omega, HCs.out, by rw [HN.out], rfl⟩, (by simp)⟩, by have := HJ.out; simp [intOf]; omega⟩
      · obtain rfl : j = 3 := by omega
        have r0 : ¬ (((3 : Nat) : Int)) ≤ 2 := by omega
        have r0' : ¬ (3 : Int) ≤ 2 := by omega
        obtain ⟨z, hz⟩ : ∃ z, z = acc (((f 0 : Nat) : Int) - 224) f 2 := ⟨_, rfl⟩
        have hb2 := hb
        rw [show 3 - 1 = 2 from rfl, ← hz] at hb2
        rw [show 3 - 1 = 2 from rfl, ← hz]
        by_cases p1 : z < 2048
        · have v0 : z < 2048 := by omega
          have v1 : ¬ (1114111 : Int) < z := by omega
          have v2 : ¬ (55296 : Int) ≤ z := by omega
          have v3 : z < 57344 := by omega
          have HE := Lib.hid (show sgB (L - k) f = (-1, 1) from bad3_val hc hc2 (hcs 1 (by omega) (by omega)) (hcs 2 (by omega) (by omega)) (by rw [← hz]; exact Or.inl p1))
          clear p1 hx hc hc2 hb hm hsz hle hcs hz hb2
          gi_wp2
          go_ret2
          exact ⟨by rw [HE.out]; rfl, rfl⟩
        · have hz3 : z ≤ 131071 := by
            have := hcs 1 (by omega) (by omega)
            have := hcs 2 (by omega) (by omega)
            rw [hz]; simp only [acc, Nat.zero_add, Nat.reduceAdd]; omega
          by_cases p2 : z < 55296
          · have v0 : ¬ z < 2048 := by omega
            have v1 : ¬ (1114111 : Int) < z := by omega
            have v2 : ¬ (55296 : Int) ≤ z := by omega
            have v3 : z < 57344 := by omega
            have HE := Lib.hid (show sgB (L - k) f = (z, 3) by rw [hz]; exact good3 hc hc2 (hcs 1 (by omega) (by omega)) (hcs 2 (by omega) (by omega)) (by omega) (by rw [← hz]; omega) (by rw [← hz]; omega) (by rw [← hz]; exact Or.inl p2))
            clear p1 p2 hz3 hx hc hc2 hb hm hsz hle hcs hz hb2
            gi_wp2
            go_ret2
            exact ⟨by rw [HE.out]; rfl, rfl⟩
          · by_cases p3 : z < 57344
            · have v0 : ¬ z < 2048 := by omega
              have v1 : ¬ (1114111 : Int) < z := by omega
              have v2 : (55296 : Int) ≤ z := by omega
              have v3 : z < 57344 := by omega
              have HE := Lib.hid (show sgB (L - k) f = (-1, 1) from bad3_val hc hc2 (hcs 1 (by omega) (by omega)) (hcs 2 (by omega) (by omega)) (by rw [← hz]; exact Or.inr (Or.inr ⟨by omega, p3⟩)))
              clear p1 p2 p3 hz3 hx hc hc2 hb hm hsz hle hcs hz hb2
              gi_wp2
              go_ret2
              exact ⟨by rw [HE.out]; rfl, rfl⟩
            · have v0 : ¬ z < 2048 := by omega
              have v1 : ¬ (1114111 : Int) < z := by omega
              have v2 : (55296 : Int) ≤ z := by omega
              have v3 : ¬ z < 57344 := by omega
              have HE := Lib.hid (show sgB (L - k) f = (z, 3) by rw [hz]; exact good3 hc hc2 (hcs 1 (by omega) (by omega)) (hcs 2 (by omega) (by omega)) (by omega) (by rw [← hz]; omega) (by rw [← hz]; omega) (by rw [← hz]; exact Or.inr (by omega)))
              clear p1 p2 p3 hz3 hx hc hc2 hb hm hsz hle hcs hz hb2
              gi_wp2
              go_ret2
              exact ⟨by rw [HE.out]; rfl, rfl⟩
set_option maxRecDepth 100000 in
set_option maxHeartbeats 4000000 in
theorem sign_4 (s : List UInt8) (hs : s.length ≤ 100000) (k : Nat) (hk : k < s.length) (hc : 240 ≤ ff s k 0) (hc2 : ff s k 0 < 245) (w : World) : Calls Tryd.prog 24 #[.string (mkB s), .int .i64 (k : Int)] w fun e w' => e = .returned (sgV (sgB (s.length - k) (ff s k))) ∧ w' = w := by
  have hix0 := str_index s w k (s.getD k 0) (by rw [List.getElem?_eq_getElem hk]; simp [List.getD, hk])
  rw [show ((s.getD k 0).toNat : Nat) = ff s k 0 from rfl] at hix0
  have HIx := Lib.hid (fun j h W => idx_f s k j h W)
  have hsz : (mkB s).size = s.length := mkB_size s
  have h256 := ff_lt s k
  obtain ⟨f, hf⟩ : ∃ f, f = ff s k := ⟨_, rfl⟩
  rw [← hf] at HIx hix0 h256 ⊢
  rw [← hf] at hc hc2
  obtain ⟨S, hS⟩ : ∃ S, S = mkB s := ⟨_, rfl⟩
  rw [← hS] at HIx hix0 hsz ⊢
  obtain ⟨L, hL⟩ : ∃ L, L = s.length := ⟨_, rfl⟩
  rw [← hL] at HIx hsz hs hk ⊢
  clear hS hf hL
  have hx0 := h256 0
  obtain ⟨x0, hx⟩ : ∃ x0 : Int, x0 = ((f 0 : Nat) : Int) := ⟨_, rfl⟩
  rw [← hx] at hix0
  have hwx : IntKind.i64.wrap x0 = x0 := IntWalk.i64_in _ (by omega)
  have q0 : ¬ x0 < 128 := by omega
  have q1 : (194 : Int) ≤ x0 := by omega
  have q2 : ¬ x0 < 224 := by omega
  have q3 : (224 : Int) ≤ x0 := by omega
  have q4 : ¬ x0 < 240 := by omega
  have q5 : (240 : Int) ≤ x0 := by omega
  have q6 : x0 < 245 := by omega
  have hws : IntKind.i64.wrap (x0 - 240) = x0 - 240 := IntWalk.i64_in _ (by omega)
  have hwl : IntKind.i64.wrap ((S.size : Int) - (k : Int)) = (S.size : Int) - (k : Int) := IntWalk.i64_in _ (by omega)
  have HX := Lib.hid hx
  have HC := Lib.hid hc
  have HC2 := Lib.hid hc2
  have H256 := Lib.hid h256
  by_cases hm : L - k ≤ 3
  · have q8 : (S.size : Int) - (k : Int) ≤ 3 := by omega
    have HE := Lib.hid (show sgB (L - k) f = (-1, 1) from bad4_short hc hc2 hm)
    clear hx hc hx0 hc2 hm h256
    refine (callsIn_wide (n := 5)).1 ?_
    refine callsIn_of_wp Tryd.func24 rfl trivial ?_ rfl
    simp only [Tryd.ntmps24, List.size_toArray, List.length_cons, List.length_nil, Nat.reduceAdd, Nat.reduceSub, Array.replicate_succ, Array.replicate_zero, List.push_toArray, List.append_toArray, List.nil_append, List.cons_append]
    gi_wp2_with (refine opIn_index _ _ _ rfl _ hix0 ?_)
    go_ret2
    exact ⟨by rw [HE.out]; rfl, rfl⟩
  · have q8 : ¬ (S.size : Int) - (k : Int) ≤ 3 := by omega
    have HM := Lib.hid hm
    have HSz := Lib.hid hsz
    clear hx hc hx0 hc2 hm h256
    refine (callsIn_wide (n := 5)).1 ?_
    refine callsIn_of_wp Tryd.func24 rfl trivial ?_ rfl
    simp only [Tryd.ntmps24, List.size_toArray, List.length_cons, List.length_nil, Nat.reduceAdd, Nat.reduceSub, Array.replicate_succ, Array.replicate_zero, List.push_toArray, List.append_toArray, List.nil_append, List.cons_append]
    gi_wp2_with (refine opIn_index _ _ _ rfl _ hix0 ?_)
    gi_loopw [6, 9] (fun c i wr => (∃ j : Nat, 1 ≤ j ∧ j ≤ 4 ∧ (∀ j', 1 ≤ j' → j' < j → 128 ≤ f j' ∧ f j' < 192) ∧ c = .int .i64 (acc (((f 0 : Nat) : Int) - 240) f (j - 1)) ∧ i = .int .i64 (j : Int)) ∧ wr = w) (fun _ i _ => 5 - (intOf i).toNat)
    case atStart => exact ⟨⟨1, by omega, by omega, fun j' a b => by omega, by first | (rw [HX.out]; rfl) | (rw [← HX.out]; rfl) | simp [acc, HX.out], rfl⟩, rfl⟩
    case round =>
      obtain ⟨⟨j, hj1, hj2, hcs, rfl, rfl⟩, rfl⟩ := hrel
      have hx := HX.out
      have hc := HC.out
      have hc2 := HC2.out
      have hb := acc_lt (c0 := ((f 0 : Nat) : Int) - 240) (f := f) (n := j - 1) (by omega) (by omega) (by omega) (fun j' a b => hcs j' a (by omega))
      have hm := HM.out
      have hsz := HSz.out
      by_cases hle : j ≤ 3
      · have r0 : (j : Int) ≤ 3 := by omega
        have hxj := H256.out j
        have hix := HIx.out j (by omega) wr
        have hwk : IntKind.i64.wrap ((k : Int) + (j : Int)) = (k : Int) + (j : Int) := IntWalk.i64_in _ (by omega)
        obtain ⟨x, hxe⟩ : ∃ x : Int, x = ((f j : Nat) : Int) := ⟨_, rfl⟩
        rw [← hxe] at hix
        have hwx1 : IntKind.i64.wrap x = x := IntWalk.i64_in _ (by omega)
        by_cases c1 : f j < 128
        · have r1 : x < 128 := by omega
          have HE := Lib.hid (show sgB (L - k) f = (-1, 1) from bad4_cont hc hc2 j hj1 hle (.inl c1))
          clear hx hc hc2 hb hm hsz hle hxj hxe c1 hcs
          gi_wp2_with (refine opIn_index _ _ _ rfl _ hix ?_)
          go_ret2
          exact ⟨by rw [HE.out]; rfl, rfl⟩
        · have r1 : ¬ x < 128 := by omega
          by_cases c2 : 192 ≤ f j
          · have r2 : (192 : Int) ≤ x := by omega
            have HE := Lib.hid (show sgB (L - k) f = (-1, 1) from bad4_cont hc hc2 j hj1 hle (.inr c2))
            clear hx hc hc2 hb hm hsz hle hxj hxe c1 c2 hcs
            gi_wp2_with (refine opIn_index _ _ _ rfl _ hix ?_)
            go_ret2
            exact ⟨by rw [HE.out]; rfl, rfl⟩
          · have r2 : ¬ (192 : Int) ≤ x := by omega
            have hcs2 : ∀ j', 1 ≤ j' → j' < j + 1 → 128 ≤ f j' ∧ f j' < 192 := fun j' a b => by
              by_cases e : j' = j
              · subst e; omega
              · exact hcs j' a (by omega)
            have HCs := Lib.hid hcs2
            have HN := Lib.hid (show acc (((f 0 : Nat) : Int) - 240) f (j + 1 - 1) = 64 * acc (((f 0 : Nat) : Int) - 240) f (j - 1) + x - 128 by
              rw [hxe]
              obtain ⟨j', rfl⟩ : ∃ j', j = j' + 1 := ⟨j - 1, by omega⟩
              rfl)
            have HJ := Lib.hid (And.intro hj1 hle)
            obtain ⟨c, hce⟩ : ∃ c, c = acc (((f 0 : Nat) : Int) - 240) f (j - 1) := ⟨_, rfl⟩
            rw [← hce] at HN hb ⊢
            have hw1 : IntKind.i64.wrap (64 * c) = 64 * c := IntWalk.i64_in _ (by omega)
            have hw2 : IntKind.i64.wrap (64 * c + x) = 64 * c + x := IntWalk.i64_in _ (by omega)
            have hw3 : IntKind.i64.wrap (64 * c + x - 128) = 64 * c + x - 128 := IntWalk.i64_in _ (by omega)
            have hw4 : IntKind.i64.wrap ((j : Int) + 1) = (j : Int) + 1 := IntWalk.i64_in _ (by omega)
            clear hx hc hc2 hb hm hsz hle hxj hxe c1 c2 hcs hcs2 hce
            gi_wp2_with (refine opIn_index _ _ _ rfl _ hix ?_)
            exact ⟨⟨⟨j + 1, by have := HJ.out; omega, by have := HJ.out; omega, HCs.out, by rw [HN.out], rfl⟩, (by simp)⟩, by have := HJ.out; simp [intOf]; omega⟩
      · obtain rfl : j = 4 := by omega
        have r0 : ¬ (((4 : Nat) : Int)) ≤ 3 := by omega
        have r0' : ¬ (4 : Int) ≤ 3 := by omega
        obtain ⟨z, hz⟩ : ∃ z, z = acc (((f 0 : Nat) : Int) - 240) f 3 := ⟨_, rfl⟩
        have hb2 := hb
        rw [show 4 - 1 = 3 from rfl, ← hz] at hb2
        rw [show 4 - 1 = 3 from rfl, ← hz]
        by_cases p1 : z < 65536
        · by_cases p2 : z < 55296
          · have v0 : z < 65536 := by omega
            have v1 : ¬ (1114111 : Int) < z := by omega
            have v2 : ¬ (55296 : Int) ≤ z := by omega
            have v3 : z < 57344 := by omega
            have HE := Lib.hid (show sgB (L - k) f = (-1, 1) from bad4_val hc hc2 (hcs 1 (by omega) (by omega)) (hcs 2 (by omega) (by omega)) (hcs 3 (by omega) (by omega)) (by rw [← hz]; exact Or.inl p1))
            clear p1 p2 hx hc hc2 hb hm hsz hle hcs hz hb2
            gi_wp2
            go_ret2
            exact ⟨by rw [HE.out]; rfl, rfl⟩
          · by_cases p3 : z < 57344
            · have v0 : z < 65536 := by omega
              have v1 : ¬ (1114111 : Int) < z := by omega
              have v2 : (55296 : Int) ≤ z := by omega
              have v3 : z < 57344 := by omega
              have HE := Lib.hid (show sgB (L - k) f = (-1, 1) from bad4_val hc hc2 (hcs 1 (by omega) (by omega)) (hcs 2 (by omega) (by omega)) (hcs 3 (by omega) (by omega)) (by rw [← hz]; exact Or.inl p1))
              clear p1 p2 p3 hx hc hc2 hb hm hsz hle hcs hz hb2
              gi_wp2
              go_ret2
              exact ⟨by rw [HE.out]; rfl, rfl⟩
            · have v0 : z < 65536 := by omega
              have v1 : ¬ (1114111 : Int) < z := by omega
              have v2 : (55296 : Int) ≤ z := by omega
              have v3 : ¬ z < 57344 := by omega
              have HE := Lib.hid (show sgB (L - k) f = (-1, 1) from bad4_val hc hc2 (hcs 1 (by omega) (by omega)) (hcs 2 (by omega) (by omega)) (hcs 3 (by omega) (by omega)) (by rw [← hz]; exact Or.inl p1))
              clear p1 p2 p3 hx hc hc2 hb hm hsz hle hcs hz hb2
              gi_wp2
              go_ret2
              exact ⟨by rw [HE.out]; rfl, rfl⟩
        · by_cases p2 : 1114111 < z
          · have v0 : ¬ z < 65536 := by omega
            have v1 : (1114111 : Int) < z := by omega
            have v2 : (55296 : Int) ≤ z := by omega
            have v3 : ¬ z < 57344 := by omega
            have HE := Lib.hid (show sgB (L - k) f = (-1, 1) from bad4_val hc hc2 (hcs 1 (by omega) (by omega)) (hcs 2 (by omega) (by omega)) (hcs 3 (by omega) (by omega)) (by rw [← hz]; exact Or.inr (Or.inl p2)))
            clear p1 p2 hx hc hc2 hb hm hsz hle hcs hz hb2
            gi_wp2
            go_ret2
            exact ⟨by rw [HE.out]; rfl, rfl⟩
          · have v0 : ¬ z < 65536 := by omega
            have v1 : ¬ (1114111 : Int) < z := by omega
            have v2 : (55296 : Int) ≤ z := by omega
            have v3 : ¬ z < 57344 := by omega
            have HE := Lib.hid (show sgB (L - k) f = (z, 4) by rw [hz]; exact good4 hc hc2 (hcs 1 (by omega) (by omega)) (hcs 2 (by omega) (by omega)) (hcs 3 (by omega) (by omega)) (by omega) (by rw [← hz]; omega) (by rw [← hz]; omega) (by rw [← hz]; exact Or.inr (by omega)))
            clear p1 p2 hx hc hc2 hb hm hsz hle hcs hz hb2
            gi_wp2
            go_ret2
            exact ⟨by rw [HE.out]; rfl, rfl⟩
theorem refSign_any (s : List UInt8) (hs : s.length ≤ 100000) (k : Nat) (hk : k < s.length) (w : World) : Calls Tryd.prog 24 #[.string (mkB s), .int .i64 (k : Int)] w fun e w' => e = .returned (sgV (sgB (s.length - k) (ff s k))) ∧ w' = w := by
  by_cases h1 : ff s k 0 < 128
  · exact sign_one s hs k hk h1 w
  · by_cases h2 : ff s k 0 < 194 ∨ 245 ≤ ff s k 0
    · exact sign_lone s hs k hk (by omega) h2 w
    · by_cases h3 : ff s k 0 < 224
      · exact sign_2 s hs k hk (by omega) h3 w
      · by_cases h4 : ff s k 0 < 240
        · exact sign_3 s hs k hk (by omega) h4 w
        · exact sign_4 s hs k hk (by omega) (by omega) w
end Go.Proofs.YtoghdllppecblaaDoor
