/- Merged texts: LArgs2, LRefs, LRight, LApP. -/
import Derived.Test.YtdbfmllcapikkaaLae
import Derived.Laws.IdiomStrings
/- A Storm and a Row that came in as arguments. -/
namespace Go.Proofs.Ytdbfmllcapikkaa
open Go.Joins Go.Deep Go.ChangeShapes Go.WideShapes Go.ChangeAt Go.RowKit
set_option linter.unusedVariables false
section
variable {H : Type} {enc : TypeId × Value → H} {w : World} {base : Nat} {held : Bool}
theorem lcells_groups : Try.prog.cellsOf 22 = 1 := by kernel_rfl
theorem lcells_storm : Try.prog.cellsOf 69 = 4 := by kernel_rfl
theorem lcells_row : Try.prog.cellsOf 24 = 5 := by kernel_rfl
theorem list_four {α : Type} : ∀ (l : List α), l.length = 4 → ∃ a b c d, l = [a, b, c, d]
  | [a, b, c, d], _ => ⟨a, b, c, d, rfl⟩
theorem list_five {α : Type} : ∀ (l : List α), l.length = 5 → ∃ a b c d e, l = [a, b, c, d, e]
  | [a, b, c, d, e], _ => ⟨a, b, c, d, e, rfl⟩
theorem storm_in {fuel : Nat} {v : Value} {x : DataW H × List MemPlace} (hv : ∃ cs, v = .agg cs ∧ cs.size = 4) (h : DataW.trod enc Try.prog w base (fun _ => true) held fuel 69 v.cells.toList = some x) :
    ∃ A n c G Q A2 n2 c2 G2 Q2 dn AF nF cF fa, v = .agg #[.slice A n c, .slice A2 n2 c2, .int .i64 dn, .slice AF nF cF] ∧ PutsG w A n G Q ∧ PutsG w A2 n2 G2 Q2 ∧ dn ≤ 9223372036854775807 ∧ Ints w AF nF fa := by
  obtain ⟨cs, rfl, hs⟩ := hv
  obtain ⟨l⟩ := cs
  have h' : DataW.trod enc Try.prog w base (fun _ => true) held fuel 69 l = some x := by simpa [Value.cells] using h
  clear h
  obtain ⟨xs, n, _, _, hl, hlen, hf⟩ := DataW.trod_struct Try.underlying69 h'
  clear hl
  have hx4 : xs.length = 4 := hlen
  clear hlen
  have hl4 : l.length = 4 := hs
  clear hs
  obtain ⟨c0, c1, c2, c3, rfl⟩ := list_four l hl4
  obtain ⟨y0, y1, y2, y3, rfl⟩ := list_four xs hx4
  have t0 : DataW.trod enc Try.prog w base (fun _ => true) held n 22 [c0] = some y0 := by simpa [lcells_groups] using hf 0 _ rfl
  have t1 : DataW.trod enc Try.prog w base (fun _ => true) held n 22 [c1] = some y1 := by simpa [lcells_groups] using hf 1 _ rfl
  have t2 : DataW.trod enc Try.prog w base (fun _ => true) held n 3 [c2] = some y2 := by simpa [lcells_int] using hf 2 _ rfl
  have t3 : DataW.trod enc Try.prog w base (fun _ => true) held n 67 [c3] = some y3 := by simpa [lcells_ints] using hf 3 _ rfl
  obtain ⟨A, n1, k1, G, Q, rfl, i1⟩ := groups_in t0
  obtain ⟨A2, n2, k2, G2, Q2, rfl, i2⟩ := groups_in t1
  obtain ⟨z, e2, _, w2⟩ := DataW.trod_int Try.underlying3 t2
  obtain ⟨AF, nF, cF, fa, rfl, i3, _⟩ := lints_in t3
  simp only [List.cons.injEq, and_true] at e2
  subst e2
  have bd := bounds_i64 w2
  exact ⟨A, n1, k1, G, Q, A2, n2, k2, G2, Q2, z, AF, nF, cF, fa, rfl, i1, i2, bd.2, i3⟩
theorem row_in {fuel : Nat} {v : Value} {x : DataW H × List MemPlace} (hv : ∃ cs, v = .agg cs ∧ cs.size = 5) (h : DataW.trod enc Try.prog w base (fun _ => true) held fuel 24 v.cells.toList = some x) :
    ∃ more f cn ep A n c G Q, v = .agg #[.int .u8 more, .int .i64 f, .int .i64 cn, .int .i64 ep, .slice A n c] ∧ (0 ≤ more ∧ more < 256) ∧ (-9223372036854775808 ≤ f ∧ f ≤ 9223372036854775807) ∧ (-9223372036854775808 ≤ cn ∧ cn ≤ 9223372036854775807) ∧ (-9223372036854775808 ≤ ep ∧ ep ≤ 9223372036854775807) ∧ PutsG w A n G Q := by
  obtain ⟨cs, rfl, hs⟩ := hv
  obtain ⟨l⟩ := cs
  have h' : DataW.trod enc Try.prog w base (fun _ => true) held fuel 24 l = some x := by simpa [Value.cells] using h
  clear h
  obtain ⟨xs, n, _, _, hl, hlen, hf⟩ := DataW.trod_struct Try.underlying24 h'
  clear hl
  have hx5 : xs.length = 5 := hlen
  clear hlen
  have hl5 : l.length = 5 := hs
  clear hs
  obtain ⟨c0, c1, c2, c3, c4, rfl⟩ := list_five l hl5
  obtain ⟨y0, y1, y2, y3, y4, rfl⟩ := list_five xs hx5
  have t0 : DataW.trod enc Try.prog w base (fun _ => true) held n 5 [c0] = some y0 := by simpa [lcells_u8] using hf 0 _ rfl
  have t1 : DataW.trod enc Try.prog w base (fun _ => true) held n 3 [c1] = some y1 := by simpa [lcells_int] using hf 1 _ rfl
  have t2 : DataW.trod enc Try.prog w base (fun _ => true) held n 3 [c2] = some y2 := by simpa [lcells_int] using hf 2 _ rfl
  have t3 : DataW.trod enc Try.prog w base (fun _ => true) held n 3 [c3] = some y3 := by simpa [lcells_int] using hf 3 _ rfl
  have t4 : DataW.trod enc Try.prog w base (fun _ => true) held n 22 [c4] = some y4 := by simpa [lcells_groups] using hf 4 _ rfl
  obtain ⟨z0, e0, _, w0⟩ := DataW.trod_int Try.underlying5 t0
  obtain ⟨z1, e1, _, w1⟩ := DataW.trod_int Try.underlying3 t1
  obtain ⟨z2, e2, _, w2⟩ := DataW.trod_int Try.underlying3 t2
  obtain ⟨z3, e3, _, w3⟩ := DataW.trod_int Try.underlying3 t3
  obtain ⟨A, n1, k1, G, Q, rfl, i1⟩ := groups_in t4
  simp only [List.cons.injEq, and_true] at e0 e1 e2 e3
  subst e0 e1 e2 e3
  have b0 := bounds_u8 w0
  exact ⟨z0, z1, z2, z3, A, n1, k1, G, Q, rfl, by omega, bounds_i64 w1, bounds_i64 w2, bounds_i64 w3, i1⟩
end
end Go.Proofs.Ytdbfmllcapikkaa
/- The document's Room and Sector of layer 11; the law's right. -/
namespace Go.Proofs.Ytdbfmllcapikkaa
open Go.RowKit
set_option linter.unusedVariables false
set_option linter.unusedSimpArgs false

theorem lrefRoom_any (n : Int) (w : World) (h0 : 64 ≤ n) (h1 : n ≤ 4096) :
    Calls Try.prog 15 #[.int .i64 n] w fun e w' => e = .returned (.int .i64 (n - 45)) ∧ w = w' := by
  have K := Lib.hid (show ∀ W, Calls Try.prog 38 #[.int .i64 n] W fun e w' => e = .returned (.int .i64 (n - 36)) ∧ W = w' from fun W => (refRoom_any n W (by omega) (by omega)).mono fun e w' ⟨he, hw⟩ => ⟨by rw [he]; unfold roomI; rw [if_pos ⟨h0, h1⟩], hw⟩)
  have hw1 : IntKind.i64.wrap (n - 36 - 9) = n - 45 := by rw [IntKind.wrap_i64]; omega
  go_enter Try.func15, Try.ntmps15
  go_wp2_with fail
  refine (K.out w).mono ?_
  rintro e w' ⟨rfl, rfl⟩
  go_wp2
  go_ret
  exact ⟨ret_int (by omega), rfl⟩
theorem strF_size (F : Nat → Nat) (n : Nat) : (strF F n).size = n := by
  have := congrArg List.length (strF_list F n)
  simpa using this
theorem strF_get {F : Nat → Nat} {n j : Nat} (hF : ∀ i, i < n → F i < 256) (hj : j < n) (h : j < (strF F n).data.size) : ((strF F n).data[j]).toNat = F j := by
  have e := strF_list F n
  have h2 : (strF F n).data.toList[j]? = some (UInt8.ofNat (F j)) := by
    rw [e, List.getElem?_map, List.getElem?_range hj]
    rfl
  rw [Array.getElem?_toList, Array.getElem?_eq_getElem h] at h2
  injection h2 with h2
  rw [h2]
  have := hF j hj
  simp [UInt8.toNat_ofNat]
  omega
/-- The bytes of a text, in new memory. -/
theorem str_bytes (w : World) {F : Nat → Nat} {n : Nat} (cap : Nat) (fr : Nat × Nat) (hF : ∀ i, i < n → F i < 256) (hn : n ≤ 9223372036854775807) : Bytes (w.drew.alloc (.cells (bytesRow (strF F n) cap) 5 fr)) (some ⟨w.heap.size, 0, none⟩) n F := by
  have hs : (strF F n).data.size = n := strF_size F n
  refine ⟨hn, hF, fun _ => ⟨w.heap.size, 0, rfl, fun i hi => ?_⟩⟩
  rw [Nat.zero_add]
  have hb : (w.drew.alloc (.cells (bytesRow (strF F n) cap) 5 fr)).heap[w.heap.size]? = some (.cells (bytesRow (strF F n) cap) 5 fr) := World.alloc_heap_new w.drew _
  have hc := bytesRow_at (strF F n) cap i (by omega)
  rw [strF_get hF hi] at hc
  rw [cell_of_row _ w.heap.size i _ _ _ hb]
  exact hc
theorem OwnB.low {w : World} {b0 b1 n c : Nat} {A : Option Addr} {F : Nat → Nat} (h : OwnB w b1 A n c F) (hb : b0 ≤ b1) : OwnB w b0 A n c F :=
  ⟨own_lower h.1 hb, h.2⟩
theorem OwnB.nil_ {w : World} {b n c : Nat} {A : Option Addr} {F : Nat → Nat} (h : OwnB w b A n c F) : A = none → c = 0 := h.2.2.2.2
set_option maxRecDepth 100000 in
set_option maxHeartbeats 4000000 in
theorem refSector_any (sz ep i page m : Nat) (last : Bool) (G : Nat → Nat) (w : World) (hs1 : 64 ≤ sz) (hs2 : sz ≤ 4096) (he1 : 1 ≤ ep) (he : ep ≤ 1099511627776) (hi : i ≤ 1000) (hp : page ≤ 2147483647) (hm : m + 45 = sz) (hG : ∀ j, j < m → G j < 256) :
    Calls Try.prog 19 #[.int .i64 sz, .int .i64 ep, .int .i64 i, .agg #[.int .i64 page, .string (strF G m)], .bool last] w fun e w' =>
      ∃ B d, e = .returned (.slice B sz d) ∧ OwnB w' w.heap.size B sz d (secF (sz - 20) (mkN ep i) (9 + m) (loadF page last G)) ∧ Below w.heap.size w w' := by
  obtain ⟨s, hs⟩ : ∃ s, s = strF G m := ⟨_, rfl⟩
  have hsz : s.size = m := by rw [hs]; exact strF_size G m
  obtain ⟨W0, hW0⟩ : ∃ W0 : World, W0 = w.alloc (.cells #[.int .i64 page, .string s] 47) := ⟨_, rfl⟩
  have l0 : Below w.heap.size w W0 := by rw [hW0]; exact (Below.refl _ _).alloc (Nat.le_refl _) _
  have c0 : W0.cell? ⟨w.heap.size, 0, none⟩ = some (.int .i64 page) := by rw [hW0]; simp
  have c1 : W0.cell? ⟨w.heap.size, 1, none⟩ = some (.string s) := by rw [hW0]; simp
  have hz0 : w.heap.size < W0.heap.size := by rw [hW0]; simp
  have H0 := Lib.hid hW0
  have L0 := Lib.hid l0
  have C1 := Lib.hid (show ∀ W, Below W0.heap.size W0 W → W.cell? ⟨w.heap.size, 1, none⟩ = some (.string s) from fun W l => kept_l l hz0 c1)
  have HS := Lib.hid hs
  rw [← hs]
  have hmk := mkN_lt (ep := ep) (i := i) he (by omega)
  have hmk1 : IntKind.i64.wrap (2097152 * (ep : Int)) = 2097152 * (ep : Int) := by rw [IntKind.wrap_i64]; omega
  have hmk2 : IntKind.i64.wrap (2097152 * (ep : Int) + (i : Int)) = 2097152 * (ep : Int) + (i : Int) := by rw [IntKind.wrap_i64]; omega
  have hmk3 : IntKind.i64.wrap (2097152 * (ep : Int) + (i : Int) + 1) = ((mkN ep i : Nat) : Int) := by rw [IntKind.wrap_i64]; unfold mkN; omega
  clear hW0 hs l0
  go_enter Try.func19, Try.ntmps19
  go_upto_region 1 with (fail)
  rw [← H0.out]
  go_wp2_with fail
  refine (refBytes_any page 8 W0 (by omega) (by omega)).mono ?_
  rintro e W1 ⟨A1, d1, rfl, o1, l1⟩
  have O1 := Lib.hid o1
  have L1 := Lib.hid l1
  have hz1 := l1.size
  clear o1 l1
  cases last
  case false =>
    have L12 : Hid (Below w.heap.size w W1) := Lib.hid (L0.out.trans (L1.out.mono L0.out.size))
    go_wp2_with (at_builtin; with_reducible refine wpList_push W1 rfl _ _ 42 rfl Try.underlying42 u8infoAll W0.heap.size _ _ _ _ rfl O1.out _ rfl ?d1 ?d2 ?d3 hz1 ?d4)
    case d1 => omega
    case d2 => omega
    case d3 => omega
    case d4 =>
      intro A2 c2 W2 o2 lq
      have O2 := Lib.hid (show OwnB W2 W0.heap.size A2 9 c2 (loadF page false G) from o2.congr fun i hi => by
        unfold pushF loadF
        by_cases h : i < 8
        · rw [if_pos h, if_pos h]
        · rw [if_neg h, if_neg h, if_pos (by omega)]; rfl)
      have L2 := Lib.hid (show Below W0.heap.size W0 W2 from L1.out.trans lq)
      have hz2 := L2.out.size
      clear o2 lq
      have k1 := C1.out _ L2.out
      have hcv := run_bytes_of_string W2 9 42 5 s Try.underlying9 Try.underlying42 Try.underlying5
      rw [hsz] at hcv
      obtain ⟨cap, hcap⟩ : ∃ c, c = grownCap W2 m 0 5 := ⟨_, rfl⟩
      rw [← hcap] at hcv
      obtain ⟨fr, hfr⟩ : ∃ f, f = ((bytesRow s cap).size, (bytesRow s cap).size + 1) := ⟨_, rfl⟩
      rw [← hfr] at hcv
      have l3 : Below W2.heap.size W2 (W2.drew.alloc (.cells (bytesRow s cap) 5 fr)) := ((Below.refl _ _).drew).alloc (Nat.le_refl _) _
      have HB := Lib.hid (show Bytes (W2.drew.alloc (.cells (bytesRow s cap) 5 fr)) (some ⟨W2.heap.size, 0, none⟩) m G by rw [HS.out]; exact str_bytes W2 cap fr hG (by omega))
      have L3 := Lib.hid l3
      have O3 := Lib.hid (O2.out.below l3)
      clear hcap hfr l3
      go_wp2_with (at_builtin; refine wpList_append_bytes _ rfl _ _ 42 rfl Try.underlying42 u8infoAll W0.heap.size _ _ _ _ rfl O3.out _ _ _ _ rfl HB.out ?x0 ?x1 ?x3 ?x2)
      case x0 => intro e; cases e
      case x1 => omega
      case x3 => exact Nat.le_trans hz2 L3.out.size
      case x2 =>
        intro A4 c4 W4 o4 g4 _
        have O4 := Lib.hid (show OwnB W4 W0.heap.size A4 (9 + m) c4 (loadF page false G) from o4.congr fun i hi => by
          unfold catF
          by_cases h : i < 9
          · rw [if_pos h]
          · rw [if_neg h]
            unfold loadF
            rw [if_neg (by omega), if_neg (by omega)])
        have L4 := Lib.hid (show Below W0.heap.size W0 W4 from (L2.out.trans (L3.out.mono hz2)).grown g4 (Nat.le_trans hz2 L3.out.size) fun j hj => (O3.out.base_le hj).1)
        clear o4 g4 k1 hcv
        have KB := Lib.hid (refBuild_ok sz (sz - 20) (mkN ep i) (9 + m) c4 A4 (loadF page false G) W4 (by omega) (by omega) (by omega) (by omega) hmk.1 hmk.2 (by omega) O4.out.bytes O4.out.nil_)
        go_wp2_with fail
        refine KB.out.mono ?_
        rintro e W5 ⟨B, d, rfl, o5, l5⟩
        have O5 := Lib.hid o5
        have L5 := Lib.hid l5
        clear o5 l5
        go_wp2
        go_ret
        exact ⟨B, d, rfl, OwnB.low O5.out (Nat.le_trans L0.out.size L4.out.size), L0.out.trans ((L4.out.trans (L5.out.mono L4.out.size)).mono L0.out.size)⟩
  case true =>
    have L12 : Hid (Below w.heap.size w W1) := Lib.hid (L0.out.trans (L1.out.mono L0.out.size))
    go_wp2_with (at_builtin; with_reducible refine wpList_push W1 rfl _ _ 42 rfl Try.underlying42 u8infoAll W0.heap.size _ _ _ _ rfl O1.out _ rfl ?d1 ?d2 ?d3 hz1 ?d4)
    case d1 => omega
    case d2 => omega
    case d3 => omega
    case d4 =>
      intro A2 c2 W2 o2 lq
      have O2 := Lib.hid (show OwnB W2 W0.heap.size A2 9 c2 (loadF page true G) from o2.congr fun i hi => by
        unfold pushF loadF
        by_cases h : i < 8
        · rw [if_pos h, if_pos h]
        · rw [if_neg h, if_neg h, if_pos (by omega)]; rfl)
      have L2 := Lib.hid (show Below W0.heap.size W0 W2 from L1.out.trans lq)
      have hz2 := L2.out.size
      clear o2 lq
      have k1 := C1.out _ L2.out
      have hcv := run_bytes_of_string W2 9 42 5 s Try.underlying9 Try.underlying42 Try.underlying5
      rw [hsz] at hcv
      obtain ⟨cap, hcap⟩ : ∃ c, c = grownCap W2 m 0 5 := ⟨_, rfl⟩
      rw [← hcap] at hcv
      obtain ⟨fr, hfr⟩ : ∃ f, f = ((bytesRow s cap).size, (bytesRow s cap).size + 1) := ⟨_, rfl⟩
      rw [← hfr] at hcv
      have l3 : Below W2.heap.size W2 (W2.drew.alloc (.cells (bytesRow s cap) 5 fr)) := ((Below.refl _ _).drew).alloc (Nat.le_refl _) _
      have HB := Lib.hid (show Bytes (W2.drew.alloc (.cells (bytesRow s cap) 5 fr)) (some ⟨W2.heap.size, 0, none⟩) m G by rw [HS.out]; exact str_bytes W2 cap fr hG (by omega))
      have L3 := Lib.hid l3
      have O3 := Lib.hid (O2.out.below l3)
      clear hcap hfr l3
      go_wp2_with (at_builtin; refine wpList_append_bytes _ rfl _ _ 42 rfl Try.underlying42 u8infoAll W0.heap.size _ _ _ _ rfl O3.out _ _ _ _ rfl HB.out ?x0 ?x1 ?x3 ?x2)
      case x0 => intro e; cases e
      case x1 => omega
      case x3 => exact Nat.le_trans hz2 L3.out.size
      case x2 =>
        intro A4 c4 W4 o4 g4 _
        have O4 := Lib.hid (show OwnB W4 W0.heap.size A4 (9 + m) c4 (loadF page true G) from o4.congr fun i hi => by
          unfold catF
          by_cases h : i < 9
          · rw [if_pos h]
          · rw [if_neg h]
            unfold loadF
            rw [if_neg (by omega), if_neg (by omega)])
        have L4 := Lib.hid (show Below W0.heap.size W0 W4 from (L2.out.trans (L3.out.mono hz2)).grown g4 (Nat.le_trans hz2 L3.out.size) fun j hj => (O3.out.base_le hj).1)
        clear o4 g4 k1 hcv
        have KB := Lib.hid (refBuild_ok sz (sz - 20) (mkN ep i) (9 + m) c4 A4 (loadF page true G) W4 (by omega) (by omega) (by omega) (by omega) hmk.1 hmk.2 (by omega) O4.out.bytes O4.out.nil_)
        go_wp2_with fail
        refine KB.out.mono ?_
        rintro e W5 ⟨B, d, rfl, o5, l5⟩
        have O5 := Lib.hid o5
        have L5 := Lib.hid l5
        clear o5 l5
        go_wp2
        go_ret
        exact ⟨B, d, rfl, OwnB.low O5.out (Nat.le_trans L0.out.size L4.out.size), L0.out.trans ((L4.out.trans (L5.out.mono L4.out.size)).mono L0.out.size)⟩
end Go.Proofs.Ytdbfmllcapikkaa
/- The law's right. -/
namespace Go.Proofs.Ytdbfmllcapikkaa
open Go.RowKit
set_option linter.unusedVariables false
set_option linter.unusedSimpArgs false

def lrightB (f cn ep : Int) : Bool := decide (0 ≤ f ∧ 1 ≤ cn ∧ f ≤ 12 ∧ cn ≤ 12 ∧ f + cn ≤ 12 ∧ 1 ≤ ep ∧ ep ≤ 1099511627776)
set_option maxRecDepth 100000 in
set_option maxHeartbeats 4000000 in
theorem lright_any (more f cn ep : Int) (A : Option Addr) (n c : Nat) (w : World) :
    Calls Try.prog 12 #[.agg #[.int .u8 more, .int .i64 f, .int .i64 cn, .int .i64 ep, .slice A n c]] w fun e w' => e = .returned (.bool (lrightB f cn ep)) ∧ Below w.heap.size w w' := by
  obtain ⟨W0, hW0⟩ : ∃ W0 : World, W0 = w.alloc (.cells #[.int .u8 more, .int .i64 f, .int .i64 cn, .int .i64 ep, .slice A n c] 24) := ⟨_, rfl⟩
  have l0 : Below w.heap.size w W0 := by rw [hW0]; exact (Below.refl _ _).alloc (Nat.le_refl _) _
  have c1 : W0.cell? ⟨w.heap.size, 1, none⟩ = some (.int .i64 f) := by rw [hW0]; simp
  have c2 : W0.cell? ⟨w.heap.size, 2, none⟩ = some (.int .i64 cn) := by rw [hW0]; simp
  have c3 : W0.cell? ⟨w.heap.size, 3, none⟩ = some (.int .i64 ep) := by rw [hW0]; simp
  have H0 := Lib.hid hW0
  have L0 := Lib.hid l0
  clear hW0 l0
  obtain ⟨R, hR⟩ : ∃ R, R = lrightB f cn ep := ⟨_, rfl⟩
  have HR := Lib.hid hR
  rw [← hR]
  clear hR
  by_cases h : 0 ≤ f ∧ 1 ≤ cn ∧ f ≤ 12 ∧ cn ≤ 12
  · obtain ⟨h1, h2, h3, h4⟩ := h
    have hw : IntKind.i64.wrap (f + cn) = f + cn := by rw [IntKind.wrap_i64]; omega
    by_cases h5 : f + cn ≤ 12
    · by_cases h6 : 1 ≤ ep
      · by_cases h7 : ep ≤ 1099511627776
        all_goals
          go_enter Try.func12, Try.ntmps12
          go_upto_region 1 with (fail)
          rw [← H0.out]
          go_wp2
          go_ret
          exact ⟨by rw [HR.out]; unfold lrightB; simp <;> omega, L0.out⟩
      · go_enter Try.func12, Try.ntmps12
        go_upto_region 1 with (fail)
        rw [← H0.out]
        go_wp2
        go_ret
        exact ⟨by rw [HR.out]; unfold lrightB; simp <;> omega, L0.out⟩
    · go_enter Try.func12, Try.ntmps12
      go_upto_region 1 with (fail)
      rw [← H0.out]
      go_wp2
      go_ret
      exact ⟨by rw [HR.out]; unfold lrightB; simp <;> omega, L0.out⟩
  · have R0 : R = false := by rw [HR.out]; exact decide_eq_false fun q => h ⟨q.1, q.2.1, q.2.2.1, q.2.2.2.1⟩
    subst R0
    by_cases h1 : 0 ≤ f
    · by_cases h2 : 1 ≤ cn
      · by_cases h3 : f ≤ 12
        · have h4 : ¬ cn ≤ 12 := fun q => h ⟨h1, h2, h3, q⟩
          clear h
          go_enter Try.func12, Try.ntmps12
          go_upto_region 1 with (fail)
          rw [← H0.out]
          go_wp2
          go_ret
          exact ⟨rfl, L0.out⟩
        · clear h
          go_enter Try.func12, Try.ntmps12
          go_upto_region 1 with (fail)
          rw [← H0.out]
          go_wp2
          go_ret
          exact ⟨rfl, L0.out⟩
      · clear h
        go_enter Try.func12, Try.ntmps12
        go_upto_region 1 with (fail)
        rw [← H0.out]
        go_wp2
        go_ret
        exact ⟨rfl, L0.out⟩
    · clear h
      go_enter Try.func12, Try.ntmps12
      go_upto_region 1 with (fail)
      rw [← H0.out]
      go_wp2
      go_ret
      exact ⟨rfl, L0.out⟩
end Go.Proofs.Ytdbfmllcapikkaa
/- LogAppends: its plain part. -/
namespace Go.Proofs.Ytdbfmllcapikkaa
open Go.RowKit
set_option linter.unusedVariables false
set_option linter.unusedSimpArgs false

structure ApB (f cn ep sz : Nat) (L : LS) (gs : List (List Dc)) : Prop where
  al : Alive f cn L
  up : Up L.S
  size : L.S.size = sz
  N : L.S.N = 12
  ct : Cont f ep L.S L.nx gs
  z : Rest f cn (fun _ F => ∀ k, k < sz → F k = 0) L.S L.nx
theorem ApB.first {f cn ep sz : Nat} (hs1 : 64 ≤ sz) (hs2 : sz ≤ 4096) (hN : f + cn ≤ 12) : ApB f cn ep sz ⟨newS 12 sz, 0, false⟩ [] :=
  ⟨⟨rfl, rfl, rfl, fun _ => rfl, Nat.zero_le _, ⟨hs1, hs2⟩, hN⟩, ⟨rfl, rfl⟩, rfl, rfl, Cont.zero _ _ _, fun _ _ _ _ _ => rfl⟩
theorem ApB.step {f cn ep sz : Nat} {L : LS} {gs : List (List Dc)} {n : Nat} {P : Nat → PutD} (h : ApB f cn ep sz L gs) (he1 : 1 ≤ ep) (he : ep ≤ 1099511627776) (hc : cn ≤ 1048576) (hb : ∀ j, j < n → (P j).b < 256) :
    (appR cn L n P ≠ 0 ∧ appT f cn ep L n P = (appR cn L n P, L)) ∨ (appR cn L n P = 0 ∧ (appT f cn ep L n P).1 = 0 ∧ ApB f cn ep sz (appT f cn ep L n P).2 (gs ++ [gD (sz - 45) n P]) ∧ (appT f cn ep L n P).2.nx = L.nx + n ∧ (appT f cn ep L n P).2.dead = false ∧
      (∀ j, j < n → (appT f cn ep L n P).2.S.now (f + L.nx + j) = secF (sz - 20) (mkN ep (L.nx + j)) (9 + (sz - 45)) (loadF (P j).page.toNat (decide (j + 1 = n)) (fun _ => (P j).b))) ∧
      1 ≤ n ∧ (∀ i, i < n → 0 ≤ (P i).page ∧ (P i).page ≤ 2147483647) ∧ (∀ i, i < n → putN (sz - 45) (P i) = sz - 45)) := by
  have k := appT_keepsUp (ep := ep) (n := n) (P := P) h.up (by have := h.al.sz; omega) h.al.N
  have hs := h.al.sz
  rw [h.size] at hs
  rcases app_cases (ep := ep) (n := n) (P := P) h.al with ⟨e0, _, e⟩ | ⟨h0, e0, al, nx, sz', eN, at_, out⟩ | ⟨h0, e0, _⟩
  · exact .inl ⟨e0, e⟩
  · obtain ⟨z1, z2, z3, z4, z5⟩ := appR_zero h0 (by rw [h.size]; omega)
    rw [h.size] at z4
    refine .inr ⟨h0, e0, ⟨al, k.1, sz'.trans h.size, eN.trans h.N, ?_, ?_⟩, nx, al.dd, fun j hj => ?_, z2, z3, z4⟩
    · have := h.ct.app (cn := cn) (T := (appT f cn ep L n P).2.S) (by rw [h.size]; omega) he1 he hc hb h0 sz' nx (fun j hj q _ => by rw [at_ j hj]) out
      rw [h.size] at this
      exact this
    · exact h.z.app (T := (appT f cn ep L n P).2.S) nx out
    · rw [at_ j hj, secL_at (by rw [h.size]; exact z4 j hj), h.size]
  · rw [appT_up h.up (by rw [h.size]; omega) h.al.N h0] at e0
    cases e0
theorem ApB.latest {f cn ep sz : Nat} {L : LS} {gs : List (List Dc)} (h : ApB f cn ep sz L gs) (hc : cn ≤ 1048576) : latOf L.S f (List.range cn) = if 0 < L.nx then ep else 0 := by
  have hs := h.al.sz
  have hnx := h.al.nx
  have : ∀ k, k ≤ cn → latOf L.S f (List.range k) = if 0 < L.nx ∧ 0 < k then ep else 0 := by
    intro k
    induction k with
    | zero => intro _; rw [if_neg (by omega)]; rfl
    | succ k ih =>
      intro hk
      rw [List.range_succ, latOf_snoc, ih (by omega)]
      by_cases q : k < L.nx
      · have e := (h.ct.ch k q).1
        rw [e, if_pos (show 0 < L.nx ∧ 0 < k + 1 by omega)]
        split <;> omega
      · have e : epochN (L.S.now (f + k)) (L.S.size - 20) k = 0 := epoch_zero (by omega) fun j hj => h.z k (by omega) (by omega) j (by rw [← h.size]; omega)
        rw [e, Nat.max_zero]
        by_cases q0 : 0 < L.nx
        · rw [if_pos (by omega), if_pos (by omega)]
        · rw [if_neg (by omega), if_neg (by omega)]
  rw [this cn (Nat.le_refl _)]
  by_cases q0 : 0 < L.nx
  · rw [if_pos ⟨q0, by omega⟩, if_pos q0]
  · rw [if_neg (by omega), if_neg q0]
theorem ApB.read {f cn ep sz k : Nat} {L : LS} {gs : List (List Dc)} (h : ApB f cn ep sz L gs) (he1 : 1 ≤ ep) (hk : k ≤ cn) (hch : ∀ i, i < k → chAt L.S f ep i) (hno : k < cn → ¬ chAt L.S f ep k) : (dTo (lastB L.S f) (dcOf L.S f) k).1 = gs := by
  have hs := h.al.sz
  refine read_cont h.ct (fun i h1 h2 hc => ?_) h.al.nx hk hch hno
  have e : epochN (L.S.now (f + i)) (L.S.size - 20) i = 0 := epoch_zero (by omega) fun j hj => h.z i h1 h2 j (by rw [← h.size]; omega)
  have := hc.1
  omega
/-- What the law reckons, step by step. -/
def wrong1 (n : Nat) (P : Nat → PutD) : Nat → Int
  | 0 => 0
  | k + 1 => if (P k).page < 0 ∨ 2147483647 < (P k).page then 1 else wrong1 n P k
theorem wrong1_at (n : Nat) (P : Nat → PutD) : ∀ k, wrong1 n P k = if ∃ i, i < k ∧ ¬ (0 ≤ (P i).page ∧ (P i).page ≤ 2147483647) then 1 else 0
  | 0 => by rw [if_neg (by rintro ⟨i, hi, _⟩; omega)]; rfl
  | k + 1 => by
    unfold wrong1
    rw [wrong1_at n P k]
    by_cases q : (P k).page < 0 ∨ 2147483647 < (P k).page
    · rw [if_pos q, if_pos ⟨k, by omega, by omega⟩]
    · rw [if_neg q]
      by_cases r : ∃ i, i < k ∧ ¬ (0 ≤ (P i).page ∧ (P i).page ≤ 2147483647)
      · obtain ⟨i, hi, hr⟩ := r
        rw [if_pos ⟨i, hi, hr⟩, if_pos ⟨i, by omega, hr⟩]
      · rw [if_neg r, if_neg]
        rintro ⟨i, hi, hr⟩
        rcases Nat.lt_or_ge i k with h | h
        · exact r ⟨i, h, hr⟩
        · obtain rfl : i = k := by omega
          exact hr (by omega)
def wrong3 (x1 : Int) (rm : Nat) (P : Nat → PutD) : Nat → Int
  | 0 => x1
  | k + 1 => if wrong3 x1 rm P k = 0 ∧ putN rm (P k) ≠ rm then 3 else wrong3 x1 rm P k
theorem wrong3_succ (x1 : Int) (rm : Nat) (P : Nat → PutD) (k : Nat) : wrong3 x1 rm P (k + 1) = if wrong3 x1 rm P k = 0 ∧ putN rm (P k) ≠ rm then 3 else wrong3 x1 rm P k := rfl
theorem wrong3_stay {x1 : Int} {rm : Nat} {P : Nat → PutD} {j : Nat} (h : wrong3 x1 rm P j ≠ 0) : ∀ d, wrong3 x1 rm P (j + d) = wrong3 x1 rm P j
  | 0 => rfl
  | d + 1 => by
    show wrong3 x1 rm P ((j + d) + 1) = _
    rw [wrong3_succ, wrong3_stay h d, if_neg (fun q => h q.1)]
theorem wrong3_at (x1 : Int) (rm : Nat) (P : Nat → PutD) : ∀ k, wrong3 x1 rm P k = if x1 ≠ 0 then x1 else if ∃ i, i < k ∧ putN rm (P i) ≠ rm then 3 else 0
  | 0 => by
    unfold wrong3
    by_cases h : x1 = 0
    · rw [if_neg (fun q => q h), if_neg (by rintro ⟨i, hi, _⟩; omega), h]
    · rw [if_pos h]
  | k + 1 => by
    have ih := wrong3_at x1 rm P k
    by_cases h : x1 = 0
    · rw [if_neg (fun q => q h)] at ih ⊢
      unfold wrong3
      by_cases q : ∃ i, i < k ∧ putN rm (P i) ≠ rm
      · rw [if_pos q] at ih
        obtain ⟨i, hi, hne⟩ := q
        rw [ih, if_neg (fun z => by have := z.1; omega), if_pos ⟨i, by omega, hne⟩]
      · rw [if_neg q] at ih
        by_cases z : putN rm (P k) = rm
        · rw [if_neg (fun y => y.2 z), ih, if_neg]
          rintro ⟨i, hi, hne⟩
          rcases Nat.lt_or_ge i k with a | a
          · exact q ⟨i, a, hne⟩
          · obtain rfl : i = k := by omega
            exact hne z
        · rw [if_pos ⟨ih, z⟩, if_pos ⟨k, by omega, z⟩]
    · rw [if_pos h] at ih ⊢
      unfold wrong3
      rw [if_neg (fun z => h (by rw [← ih]; exact z.1)), ih]
/-- The law's reckoning is the program's refusal. -/
theorem wrong_refuse {cn nx n sz : Nat} {L : LS} {P : Nat → PutD} (hd : L.dead = false) (hs : L.S.size = sz) (h45 : 45 ≤ sz) (hnx : L.nx = nx) (h1 : 1 ≤ n) : appR cn L n P = if wrong3 (wrong1 n P n) (sz - 45) P n ≠ 0 then wrong3 (wrong1 n P n) (sz - 45) P n else if (cn : Int) - nx < n then 6 else 0 := by
  have e1 := wrong1_at n P n
  have e3 := wrong3_at (wrong1 n P n) (sz - 45) P n
  unfold appR refuseI
  rw [hd, hs, hnx, if_neg (by decide), if_neg (by omega)]
  by_cases a : ∃ i, i < n ∧ ¬ (0 ≤ (P i).page ∧ (P i).page ≤ 2147483647)
  · rw [if_pos a] at e1
    rw [e1, if_pos (by decide)] at e3
    have a' : ∃ i, i < n ∧ ¬ pageB (pX0 (sz - 45) P i) := a
    rw [if_pos a', e1, e3, if_pos (by decide)]
  · rw [if_neg a] at e1
    rw [e1, if_neg (fun q => q rfl)] at e3
    have a' : ¬ ∃ i, i < n ∧ ¬ pageB (pX0 (sz - 45) P i) := a
    rw [if_neg a', e1]
    by_cases b : ∃ i, i < n ∧ putN (sz - 45) (P i) ≠ sz - 45
    · rw [if_pos b] at e3
      have b' : ∃ i, i < n ∧ ((pX0 (sz - 45) P i).m : Int) ≠ (sz : Int) - 45 := by
        obtain ⟨i, hi, hne⟩ := b
        exact ⟨i, hi, fun q => hne (by have q' : ((putN (sz - 45) (P i) : Nat) : Int) = (sz : Int) - 45 := q; omega)⟩
      rw [if_pos b', e3, if_pos (by decide)]
    · rw [if_neg b] at e3
      have b' : ¬ ∃ i, i < n ∧ ((pX0 (sz - 45) P i).m : Int) ≠ (sz : Int) - 45 := by
        rintro ⟨i, hi, hne⟩
        refine b ⟨i, hi, fun q => hne ?_⟩
        show ((putN (sz - 45) (P i) : Nat) : Int) = (sz : Int) - 45
        omega
      rw [if_neg b', e3]
      simp
theorem wrong_none {cn : Nat} {L : LS} {P : Nat → PutD} (hd : L.dead = false) : appR cn L 0 P = 1 := by
  unfold appR refuseI
  rw [hd, if_neg (by decide), if_pos rfl]
end Go.Proofs.Ytdbfmllcapikkaa
