/- The document's Compare, way by way. -/
import Derived.Test.YtpmhefdalhohdaaDoorORefCmp
import Derived.Deep.QuietTactic
import Derived.BigQuiet
namespace Go.Proofs.YtpmhefdalhohdaaDoor
open Go.RowKit
set_option linter.unusedVariables false

set_option maxHeartbeats 4000000 in
set_option maxRecDepth 100000 in
theorem refCmp_object (b1 : Bool) (n1 : Int) (s1 : ByteArray) (m1 : Nat) (f1 : Nat → VT) (g1 : Nat → ByteArray) (A1 : Option Addr) (c1 : Nat) (B1 : Option Addr) (d1 : Nat) (b2 : Bool) (n2 : Int) (s2 : ByteArray) (m2 : Nat) (f2 : Nat → VT) (g2 : Nat → ByteArray) (A2 : Option Addr) (c2 : Nat) (B2 : Option Addr) (d2 : Nat) (w : World) (ia : InV w (.mk 5 b1 n1 s1 m1 f1 m1 g1) #[.int .i64 5, .bool b1, .int .i64 n1, .string s1, .slice A1 m1 c1, .slice B1 m1 d1]) (ib : InV w (.mk 5 b2 n2 s2 m2 f2 m2 g2) #[.int .i64 5, .bool b2, .int .i64 n2, .string s2, .slice A2 m2 c2, .slice B2 m2 d2]) (p : Int) (r1 : rankV (.mk 5 b1 n1 s1 m1 f1 m1 g1) = p) (r2 : rankV (.mk 5 b2 n2 s2 m2 f2 m2 g2) = p) (hmc1 : m1 ≤ c1) (hc1 : c1 ≤ 9223372036854775807) (hmc2 : m2 ≤ c2) (hc2 : c2 ≤ 9223372036854775807) (hia : ∀ i, i < m1 → ∃ ds, InV w (f1 i) ds ∧ ∀ j (h : j < ds.size), cellAt w A1 (6 * i + j) = some ds[j]) (hib : ∀ i, i < m2 → ∃ ds, InV w (f2 i) ds ∧ ∀ j (h : j < ds.size), cellAt w A2 (6 * i + j) = some ds[j]) (hqd1 : m1 ≤ d1) (hd1 : d1 ≤ 9223372036854775807) (hqd2 : m2 ≤ d2) (hd2 : d2 ≤ 9223372036854775807) (hna : ∀ i, i < m1 → cellAt w B1 i = some (.string (g1 i)) ∧ (g1 i).size ≤ 9223372036854775807) (hnb : ∀ i, i < m2 → cellAt w B2 i = some (.string (g2 i)) ∧ (g2 i).size ≤ 9223372036854775807) (ih : ∀ i, i < m1 → i < m2 → ∀ (ca cb : Array Value) (W : World), InV W (f1 i) ca → InV W (f2 i) cb → Calls Tryd.prog 16 #[.agg ca, .agg cb] W fun e w' => e = .returned (.int .i64 (cmpV (f1 i) (f2 i))) ∧ Below W.heap.size W w') :
    Calls Tryd.prog 16 #[.agg #[.int .i64 5, .bool b1, .int .i64 n1, .string s1, .slice A1 m1 c1, .slice B1 m1 d1], .agg #[.int .i64 5, .bool b2, .int .i64 n2, .string s2, .slice A2 m2 c2, .slice B2 m2 d2]] w fun e w' => e = .returned (.int .i64 (rowV (fun i => memC (f1 i) (f2 i) (g1 i) (g2 i)) m1 m2)) ∧ Below w.heap.size w w' := by
  have e1 : (p != p) = false := by simp
  have ka : 0 ≤ VT.k (.mk 5 b1 n1 s1 m1 f1 m1 g1) ∧ VT.k (.mk 5 b1 n1 s1 m1 f1 m1 g1) ≤ 5 := by show (0 : Int) ≤ 5 ∧ (5 : Int) ≤ 5; decide
  have kb : 0 ≤ VT.k (.mk 5 b2 n2 s2 m2 f2 m2 g2) ∧ VT.k (.mk 5 b2 n2 s2 m2 f2 m2 g2) ≤ 5 := by show (0 : Int) ≤ 5 ∧ (5 : Int) ≤ 5; decide
  obtain ⟨W0, hW⟩ : ∃ W0, W0 = (w.alloc (.cells #[.int .i64 5, .bool b1, .int .i64 n1, .string s1, .slice A1 m1 c1, .slice B1 m1 d1] 25)).alloc (.cells #[.int .i64 5, .bool b2, .int .i64 n2, .string s2, .slice A2 m2 c2, .slice B2 m2 d2] 25) := ⟨_, rfl⟩
  have hz : W0.heap.size = w.heap.size + 2 := by rw [hW]; simp
  have PW := Lib.hid (show ∀ W : World, Below W0.heap.size W0 W → Below w.heap.size w W from fun W hbel => by
    have l : Below w.heap.size w W0 := by rw [hW]; exact ((Below.refl _ _).alloc (Nat.le_refl _) _).alloc (by simp) _
    exact l.trans (hbel.mono (by omega)))
  have KS := Lib.hid (show ∀ W : World, Below W0.heap.size W0 W → W.cell? ⟨w.heap.size, 0, none⟩ = some (.int .i64 5) ∧ W.cell? ⟨w.heap.size, 1, none⟩ = some (.bool b1) ∧ W.cell? ⟨w.heap.size, 2, none⟩ = some (.int .i64 n1) ∧ W.cell? ⟨w.heap.size, 3, none⟩ = some (.string s1) ∧ W.cell? ⟨w.heap.size, 4, none⟩ = some (.slice A1 m1 c1) ∧ W.cell? ⟨w.heap.size, 5, none⟩ = some (.slice B1 m1 d1) ∧ W.cell? ⟨w.heap.size + 1, 0, none⟩ = some (.int .i64 5) ∧ W.cell? ⟨w.heap.size + 1, 1, none⟩ = some (.bool b2) ∧ W.cell? ⟨w.heap.size + 1, 2, none⟩ = some (.int .i64 n2) ∧ W.cell? ⟨w.heap.size + 1, 3, none⟩ = some (.string s2) ∧ W.cell? ⟨w.heap.size + 1, 4, none⟩ = some (.slice A2 m2 c2) ∧ W.cell? ⟨w.heap.size + 1, 5, none⟩ = some (.slice B2 m2 d2) from fun W hbel => by
    rw [hW] at hbel
    have Ba := boxed (w := w) (W1 := (w.alloc (.cells #[.int .i64 5, .bool b1, .int .i64 n1, .string s1, .slice A1 m1 c1, .slice B1 m1 d1] 25))) rfl (wr := W) (((Below.refl (w.alloc (.cells #[.int .i64 5, .bool b1, .int .i64 n1, .string s1, .slice A1 m1 c1, .slice B1 m1 d1] 25)).heap.size (w.alloc (.cells #[.int .i64 5, .bool b1, .int .i64 n1, .string s1, .slice A1 m1 c1, .slice B1 m1 d1] 25))).alloc (by simp only [World.size_alloc]; omega) (.cells #[.int .i64 5, .bool b2, .int .i64 n2, .string s2, .slice A2 m2 c2, .slice B2 m2 d2] 25)).trans (hbel.mono ((Below.refl (w.alloc (.cells #[.int .i64 5, .bool b1, .int .i64 n1, .string s1, .slice A1 m1 c1, .slice B1 m1 d1] 25)).heap.size (w.alloc (.cells #[.int .i64 5, .bool b1, .int .i64 n1, .string s1, .slice A1 m1 c1, .slice B1 m1 d1] 25))).alloc (by simp only [World.size_alloc]; omega) (.cells #[.int .i64 5, .bool b2, .int .i64 n2, .string s2, .slice A2 m2 c2, .slice B2 m2 d2] 25)).size))
    have Bb := boxed (w := (w.alloc (.cells #[.int .i64 5, .bool b1, .int .i64 n1, .string s1, .slice A1 m1 c1, .slice B1 m1 d1] 25))) (W1 := ((w.alloc (.cells #[.int .i64 5, .bool b1, .int .i64 n1, .string s1, .slice A1 m1 c1, .slice B1 m1 d1] 25)).alloc (.cells #[.int .i64 5, .bool b2, .int .i64 n2, .string s2, .slice A2 m2 c2, .slice B2 m2 d2] 25))) rfl (wr := W) hbel
    simp only [World.size_alloc] at Bb
    exact ⟨Ba.1, Ba.2.1, Ba.2.2.1, Ba.2.2.2.1, Ba.2.2.2.2.1, Ba.2.2.2.2.2.1, Bb.1, Bb.2.1, Bb.2.2.1, Bb.2.2.2.1, Bb.2.2.2.2.1, Bb.2.2.2.2.2.1⟩)
  have LD := Lib.hid (show ∀ W : World, Below W0.heap.size W0 W → W.rangeAt w.heap.size 0 [.int .i64 5, .bool b1, .int .i64 n1, .string s1, .slice A1 m1 c1, .slice B1 m1 d1] ∧ W.rangeAt (w.heap.size + 1) 0 [.int .i64 5, .bool b2, .int .i64 n2, .string s2, .slice A2 m2 c2, .slice B2 m2 d2] from fun W hbel => by
    obtain ⟨a0, a1, a2, a3, a4, a5, b0, b1, b2, b3, b4, b5⟩ := KS.out W hbel
    exact ⟨range6 a0 a1 a2 a3 a4 a5, range6 b0 b1 b2 b3 b4 b5⟩)
  have RA := Lib.hid (show ∀ W : World, Below W0.heap.size W0 W → Calls Tryd.prog 29 #[.agg #[.int .i64 5, .bool b1, .int .i64 n1, .string s1, .slice A1 m1 c1, .slice B1 m1 d1]] W fun e w' => e = .returned (.int .i64 p) ∧ Below W.heap.size W w' from fun W hbel => by rw [← r1]; exact refRank_any (.mk 5 b1 n1 s1 m1 f1 m1 g1) _ W (ia.keep (KeepC.below (PW.out W hbel))) ka)
  have RB := Lib.hid (show ∀ W : World, Below W0.heap.size W0 W → Calls Tryd.prog 29 #[.agg #[.int .i64 5, .bool b2, .int .i64 n2, .string s2, .slice A2 m2 c2, .slice B2 m2 d2]] W fun e w' => e = .returned (.int .i64 p) ∧ Below W.heap.size W w' from fun W hbel => by rw [← r2]; exact refRank_any (.mk 5 b2 n2 s2 m2 f2 m2 g2) _ W (ib.keep (KeepC.below (PW.out W hbel))) kb)
  obtain ⟨M, hM⟩ : ∃ M : Nat, M = min m1 m2 := ⟨_, rfl⟩
  have hM1 : M ≤ m1 := by omega
  have hM2 : M ≤ m2 := by omega
  have HM := Lib.hid hM
  have HW := Lib.hid hW
  have HIA := Lib.hid hia
  have HIB := Lib.hid hib
  have IH := Lib.hid ih
  have HNA := Lib.hid hna
  have HNB := Lib.hid hnb
  clear hW hz ia ib r1 r2 ka kb hM hia hib ih hna hnb
  go_enter Tryd.func16, Tryd.ntmps16
  go_wp2_with fail
  rw [← HW.out]
  have PD := Lib.hid (below_drew (Below.refl W0.heap.size W0))
  refine wp_region_held_drew (S := fun W => Below W0.heap.size W0 W) (by kernel_rfl) (PD.out) (fun hHeld => ?_)
  refine wpAnyH_take (i := 0) (oi := { dst := some 7, op := Op.load 25 (Operand.tmp 2), type := 25, pos := "ref.go:49", after := #[], guard := none }) (v := .agg #[.int .i64 5, .bool b1, .int .i64 n1, .string s1, .slice A1 m1 c1, .slice B1 m1 d1]) rfl (by kernel_rfl) (by kernel_rfl) (by kernel_rfl) (fun _ _ _ h => h) (yieldsIf_load_mid (by kernel_rfl) 25 (.tmp 2) rfl (w.heap.size) (0) (by kernel_rfl) [.int .i64 5, .bool b1, .int .i64 n1, .string s1, .slice A1 m1 c1, .slice B1 m1 d1] _ (fun W hW => (LD.out W hW).1) Tryd.underlying25 rfl (by kernel_rfl)) (by with_reducible assumption) ?_
  simp only [Act.put]
  refine wpAnyH_take (i := 2) (oi := { dst := some 9, op := Op.load 25 (Operand.tmp 3), type := 25, pos := "ref.go:49", after := #[], guard := none }) (v := .agg #[.int .i64 5, .bool b2, .int .i64 n2, .string s2, .slice A2 m2 c2, .slice B2 m2 d2]) rfl (by kernel_rfl) (by kernel_rfl) (by kernel_rfl) (fun _ _ _ h => h) (yieldsIf_load_mid (by kernel_rfl) 25 (.tmp 3) rfl (w.heap.size + 1) (0) (by kernel_rfl) [.int .i64 5, .bool b2, .int .i64 n2, .string s2, .slice A2 m2 c2, .slice B2 m2 d2] _ (fun W hW => (LD.out W hW).2) Tryd.underlying25 rfl (by kernel_rfl)) (by with_reducible assumption) ?_
  simp only [Act.put]
  refine wpAnyH_ready (rs := [1]) (by kernel_rfl) (by simp) ?_
  refine AllReadyH.cons (o := { dst := some 8, op := Op.call { callee := Callee.value (Operand.func 29), args := #[Operand.tmp 7], argTypes := #[25] }, type := 3, pos := "ref.go:49", after := #[{ on := 0, ground := Ground.data }], guard := none }) rfl (fun K hK => ?_) AllReadyH.nil
  go_simp
  go_wp2_with (go_at_call 29; (with_reducible refine (RA.out _ PD.out).mono ?_); rintro e w1 ⟨rfl, l⟩; have hSw1 := PD.out.trans (l.mono PD.out.size); have P1 := Lib.hid hSw1; clear l)
  refine hK.out _ _ (by with_reducible assumption) (fun hHeld => ?_)
  clear hK K
  refine wpAnyH_ready (rs := [3]) (by kernel_rfl) (by simp) ?_
  refine AllReadyH.cons (o := { dst := some 10, op := Op.call { callee := Callee.value (Operand.func 29), args := #[Operand.tmp 9], argTypes := #[25] }, type := 3, pos := "ref.go:49", after := #[{ on := 2, ground := Ground.data }, { on := 1, ground := Ground.chain }], guard := none }) rfl (fun K hK => ?_) AllReadyH.nil
  go_simp
  go_wp2_with (go_at_call 29; (with_reducible refine (RB.out _ P1.out).mono ?_); rintro e w2 ⟨rfl, l⟩; have hSw2 := P1.out.trans (l.mono P1.out.size); have P2 := Lib.hid hSw2; clear l)
  refine hK.out _ _ (by with_reducible assumption) (fun hHeld => ?_)
  clear hK K
  refine wpAnyH_take (i := 4) (oi := { dst := some 11, op := Op.binOp BinOp.neq 3 (Operand.tmp 8) (Operand.tmp 10) 3, type := 4, pos := "ref.go:49", after := #[{ on := 1, ground := Ground.data }, { on := 3, ground := Ground.data }], guard := none }) (v := ?_) rfl (by kernel_rfl) (by kernel_rfl) (by kernel_rfl) (fun _ _ _ h => h) (Or.inl ⟨by kernel_rfl, ?_⟩) (by with_reducible assumption) ?_
  rotate_left 1
  · (intro w0 hSw; (try dsimp only at hSw); go_simp; (try with_reducible rfl))
  simp only [Act.put]
  refine wpAnyH_done (by kernel_rfl) ?_ _
  all_goals
    clear hHeld hSw1 hSw2
    obtain ⟨a0, _, _, _, a4, a5, b0, _, _, _, b4, b5⟩ := KS.out _ P2.out
    go_wp2_with fail
    clear a0 a4 a5 b0 b4 b5
    go_loopw [5] (fun i wr => ∃ j : Nat, j ≤ M ∧ i = .int .i64 j ∧ firstE (fun i => memC (f1 i) (f2 i) (g1 i) (g2 i)) j = 0 ∧ Below W0.heap.size W0 wr) (fun i _ => M - (intOf i).toNat)
    case atStart => exact ⟨0, by omega, rfl, rfl, P2.out⟩
    case round =>
      obtain ⟨j, hj, rfl, hz, hb⟩ := hrel
      have HZ := Lib.hid hz
      have HB := Lib.hid hb
      clear hz hb
      obtain ⟨a0, _, _, _, a4, a5, b0, _, _, _, b4, b5⟩ := KS.out _ HB.out
      by_cases hlt : j < M
      · have hl1 : j < m1 := by omega
        have hl2 : j < m2 := by omega
        obtain ⟨x1, o1, kj1, bj1, nj1, sj1, Aj1, mj1, cj1, Bj1, qj1, dj1, rfl, hiv1, g10, g11, g12, g13, g14, g15⟩ := item_at HIA.out (KeepC.refl w) hl1
        obtain ⟨x2, o2, kj2, bj2, nj2, sj2, Aj2, mj2, cj2, Bj2, qj2, dj2, rfl, hiv2, g20, g21, g22, g23, g24, g25⟩ := item_at HIB.out (KeepC.refl w) hl2
        have SQ := Lib.hid (show ∀ W : World, Below W0.heap.size W0 W → W.cell? ⟨w.heap.size, 4, none⟩ = some (.slice (some ⟨x1, o1, none⟩) m1 c1) ∧ W.rangeAt x1 (o1 + j * 6) [.int .i64 kj1, .bool bj1, .int .i64 nj1, .string sj1, .slice Aj1 mj1 cj1, .slice Bj1 qj1 dj1] ∧ W.cell? ⟨w.heap.size + 1, 4, none⟩ = some (.slice (some ⟨x2, o2, none⟩) m2 c2) ∧ W.rangeAt x2 (o2 + j * 6) [.int .i64 kj2, .bool bj2, .int .i64 nj2, .string sj2, .slice Aj2 mj2 cj2, .slice Bj2 qj2 dj2] from fun W hbel => by
          obtain ⟨_, _, _, _, u4, _, _, _, _, _, v4, _⟩ := KS.out _ hbel
          have kc := KeepC.below (PW.out W hbel)
          exact ⟨u4, range6 (kc _ _ g10) (kc _ _ g11) (kc _ _ g12) (kc _ _ g13) (kc _ _ g14) (kc _ _ g15), v4, range6 (kc _ _ g20) (kc _ _ g21) (kc _ _ g22) (kc _ _ g23) (kc _ _ g24) (kc _ _ g25)⟩)
        obtain ⟨R, hR⟩ : ∃ R, R = cmpV (f1 j) (f2 j) := ⟨_, rfl⟩
        have HR := Lib.hid hR
        have CC := Lib.hid (show ∀ W : World, Below W0.heap.size W0 W → Calls Tryd.prog 16 #[.agg #[.int .i64 kj1, .bool bj1, .int .i64 nj1, .string sj1, .slice Aj1 mj1 cj1, .slice Bj1 qj1 dj1], .agg #[.int .i64 kj2, .bool bj2, .int .i64 nj2, .string sj2, .slice Aj2 mj2 cj2, .slice Bj2 qj2 dj2]] W fun e w' => e = .returned (.int .i64 R) ∧ Below W.heap.size W w' from fun W hbel => by
          rw [hR]
          exact IH.out j hl1 hl2 _ _ W (hiv1.keep (KeepC.below (PW.out W hbel))) (hiv2.keep (KeepC.below (PW.out W hbel))))
        have HDk := Lib.hid (fun k => below_drew (below_dN (k := k) HB.out))
        have HD2 := Lib.hid (fun k => below_dN (k := k) HB.out)
        obtain ⟨y1, p1, rfl, gn1, gz1⟩ := name_at HNA.out (KeepC.refl w) (hl1)
        obtain ⟨y2, p2, rfl, gn2, gz2⟩ := name_at HNB.out (KeepC.refl w) (hl2)
        have NQ := Lib.hid (show ∀ W : World, Below W0.heap.size W0 W → W.cell? ⟨y1, p1 + j, none⟩ = some (.string (g1 j)) ∧ W.cell? ⟨y2, p2 + j, none⟩ = some (.string (g2 j)) from fun W hbel => ⟨(KeepC.below (PW.out W hbel)) _ _ gn1, (KeepC.below (PW.out W hbel)) _ _ gn2⟩)
        obtain ⟨t1, t2⟩ := NQ.out _ HB.out
        by_cases hn : g1 j = g2 j
        · have e2 : ((g1 j).toList == (g2 j).toList) = true := by rw [hn]; simp
          have HP := Lib.hid (show memC (f1 j) (f2 j) (g1 j) (g2 j) = cmpV (f1 j) (f2 j) from if_neg (fun e => e hn))
          clear hiv1 hiv2 g10 g11 g12 g13 g14 g15 g20 g21 g22 g23 g24 g25 hR gn1 gn2 hn
          go_wp2_with fail
          go_quiet (fail)
          all_goals
            clear t1 t2
            by_cases h0 : R = 0
            · subst h0
              go_wp2_with fail
              refine wp_region_held_drew (S := fun W => Below W0.heap.size W0 W) (by kernel_rfl) (HDk.out _) (fun hHeld => ?_)
              refine wpAnyH_take (i := 0) (oi := { dst := some 77, op := Op.fieldAddr 25 (Operand.tmp 2) 4, type := 0, pos := "ref.go:62", after := #[], guard := none }) (v := ?_) rfl (by kernel_rfl) (by kernel_rfl) (by kernel_rfl) (fun _ _ _ h => h) (Or.inl ⟨by kernel_rfl, ?_⟩) (by with_reducible assumption) ?_
              rotate_left 1
              · (intro w0 hSw; obtain ⟨u4, _, v4, _⟩ := SQ.out _ hSw; (try dsimp only at hSw); go_simp; (try with_reducible rfl))
              simp only [Act.put]
              refine wpAnyH_take (i := 2) (oi := { dst := some 79, op := Op.move (Operand.tmp 5), type := 3, pos := "ref.go:62", after := #[], guard := none }) (v := ?_) rfl (by kernel_rfl) (by kernel_rfl) (by kernel_rfl) (fun _ _ _ h => h) (Or.inl ⟨by kernel_rfl, ?_⟩) (by with_reducible assumption) ?_
              rotate_left 1
              · (intro w0 hSw; obtain ⟨u4, _, v4, _⟩ := SQ.out _ hSw; (try dsimp only at hSw); go_simp; (try with_reducible rfl))
              simp only [Act.put]
              refine wpAnyH_take (i := 5) (oi := { dst := some 82, op := Op.fieldAddr 25 (Operand.tmp 3) 4, type := 0, pos := "ref.go:62", after := #[], guard := none }) (v := ?_) rfl (by kernel_rfl) (by kernel_rfl) (by kernel_rfl) (fun _ _ _ h => h) (Or.inl ⟨by kernel_rfl, ?_⟩) (by with_reducible assumption) ?_
              rotate_left 1
              · (intro w0 hSw; obtain ⟨u4, _, v4, _⟩ := SQ.out _ hSw; (try dsimp only at hSw); go_simp; (try with_reducible rfl))
              simp only [Act.put]
              refine wpAnyH_take (i := 7) (oi := { dst := some 84, op := Op.move (Operand.tmp 5), type := 3, pos := "ref.go:62", after := #[], guard := none }) (v := ?_) rfl (by kernel_rfl) (by kernel_rfl) (by kernel_rfl) (fun _ _ _ h => h) (Or.inl ⟨by kernel_rfl, ?_⟩) (by with_reducible assumption) ?_
              rotate_left 1
              · (intro w0 hSw; obtain ⟨u4, _, v4, _⟩ := SQ.out _ hSw; (try dsimp only at hSw); go_simp; (try with_reducible rfl))
              simp only [Act.put]
              refine wpAnyH_take (i := 1) (oi := { dst := some 78, op := Op.load 22 (Operand.tmp 77), type := 22, pos := "ref.go:62", after := #[{ on := 0, ground := Ground.data }], guard := none }) (v := ?_) rfl (by kernel_rfl) (by kernel_rfl) (by kernel_rfl) (fun _ _ _ h => h) (Or.inl ⟨by kernel_rfl, ?_⟩) (by with_reducible assumption) ?_
              rotate_left 1
              · (intro w0 hSw; obtain ⟨u4, _, v4, _⟩ := SQ.out _ hSw; (try dsimp only at hSw); go_simp; (try with_reducible rfl))
              simp only [Act.put]
              refine wpAnyH_take (i := 6) (oi := { dst := some 83, op := Op.load 22 (Operand.tmp 82), type := 22, pos := "ref.go:62", after := #[{ on := 5, ground := Ground.data }], guard := none }) (v := ?_) rfl (by kernel_rfl) (by kernel_rfl) (by kernel_rfl) (fun _ _ _ h => h) (Or.inl ⟨by kernel_rfl, ?_⟩) (by with_reducible assumption) ?_
              rotate_left 1
              · (intro w0 hSw; obtain ⟨u4, _, v4, _⟩ := SQ.out _ hSw; (try dsimp only at hSw); go_simp; (try with_reducible rfl))
              simp only [Act.put]
              refine wpAnyH_take (i := 3) (oi := { dst := some 80, op := Op.indexAddr 22 (Operand.tmp 78) (Operand.tmp 79), type := 0, pos := "ref.go:62", after := #[{ on := 1, ground := Ground.data }, { on := 2, ground := Ground.data }], guard := none }) (v := ?_) rfl (by kernel_rfl) (by kernel_rfl) (by kernel_rfl) (fun _ _ _ h => h) (Or.inl ⟨by kernel_rfl, ?_⟩) (by with_reducible assumption) ?_
              rotate_left 1
              · (intro w0 hSw; obtain ⟨u4, _, v4, _⟩ := SQ.out _ hSw; (try dsimp only at hSw); go_simp; (try with_reducible rfl))
              simp only [Act.put]
              refine wpAnyH_take (i := 8) (oi := { dst := some 85, op := Op.indexAddr 22 (Operand.tmp 83) (Operand.tmp 84), type := 0, pos := "ref.go:62", after := #[{ on := 6, ground := Ground.data }, { on := 7, ground := Ground.data }], guard := none }) (v := ?_) rfl (by kernel_rfl) (by kernel_rfl) (by kernel_rfl) (fun _ _ _ h => h) (Or.inl ⟨by kernel_rfl, ?_⟩) (by with_reducible assumption) ?_
              rotate_left 1
              · (intro w0 hSw; obtain ⟨u4, _, v4, _⟩ := SQ.out _ hSw; (try dsimp only at hSw); go_simp; (try with_reducible rfl))
              simp only [Act.put]
              refine wpAnyH_take (i := 4) (oi := { dst := some 81, op := Op.load 25 (Operand.tmp 80), type := 25, pos := "ref.go:62", after := #[{ on := 3, ground := Ground.data }], guard := none }) (v := .agg #[.int .i64 kj1, .bool bj1, .int .i64 nj1, .string sj1, .slice Aj1 mj1 cj1, .slice Bj1 qj1 dj1]) rfl (by kernel_rfl) (by kernel_rfl) (by kernel_rfl) (fun _ _ _ h => h) (yieldsIf_load_mid (by kernel_rfl) 25 (.tmp 80) rfl (x1) (o1 + j * 6) (by kernel_rfl) [.int .i64 kj1, .bool bj1, .int .i64 nj1, .string sj1, .slice Aj1 mj1 cj1, .slice Bj1 qj1 dj1] _ (fun W hW => (SQ.out W hW).2.1) Tryd.underlying25 rfl (by kernel_rfl)) (by with_reducible assumption) ?_
              simp only [Act.put]
              refine wpAnyH_take (i := 9) (oi := { dst := some 86, op := Op.load 25 (Operand.tmp 85), type := 25, pos := "ref.go:62", after := #[{ on := 8, ground := Ground.data }], guard := none }) (v := .agg #[.int .i64 kj2, .bool bj2, .int .i64 nj2, .string sj2, .slice Aj2 mj2 cj2, .slice Bj2 qj2 dj2]) rfl (by kernel_rfl) (by kernel_rfl) (by kernel_rfl) (fun _ _ _ h => h) (yieldsIf_load_mid (by kernel_rfl) 25 (.tmp 85) rfl (x2) (o2 + j * 6) (by kernel_rfl) [.int .i64 kj2, .bool bj2, .int .i64 nj2, .string sj2, .slice Aj2 mj2 cj2, .slice Bj2 qj2 dj2] _ (fun W hW => (SQ.out W hW).2.2.2) Tryd.underlying25 rfl (by kernel_rfl)) (by with_reducible assumption) ?_
              simp only [Act.put]
              refine wpAnyH_ready (rs := [10]) (by kernel_rfl) (by simp) ?_
              refine AllReadyH.cons (o := { dst := some 87, op := Op.call { callee := Callee.value (Operand.func 16), args := #[Operand.tmp 81, Operand.tmp 86], argTypes := #[25, 25] }, type := 3, pos := "ref.go:62", after := #[{ on := 4, ground := Ground.data }, { on := 9, ground := Ground.data }], guard := none }) rfl (fun K hK => ?_) AllReadyH.nil
              go_simp
              go_wp2_with (go_at_call 16; (with_reducible refine (CC.out _ (HD2.out _)).mono ?_); rintro e w3 ⟨rfl, l⟩; have hS3 := (HD2.out _).trans (l.mono (HD2.out _).size); have B3 := Lib.hid hS3; clear l)
              refine hK.out _ _ (by with_reducible assumption) (fun hHeld => ?_)
              clear hK K
              refine wpAnyH_ready (rs := [11]) (by kernel_rfl) (by simp) ?_
              refine AllReadyH.cons (o := { dst := some 6, op := Op.assign (Operand.tmp 87), type := 3, pos := "ref.go:62", after := #[{ on := 10, ground := Ground.data }, { on := 10, ground := Ground.chain }, { on := 0, ground := Ground.phase }, { on := 1, ground := Ground.phase }, { on := 2, ground := Ground.phase }, { on := 3, ground := Ground.phase }, { on := 4, ground := Ground.phase }, { on := 5, ground := Ground.phase }, { on := 6, ground := Ground.phase }, { on := 7, ground := Ground.phase }, { on := 8, ground := Ground.phase }, { on := 9, ground := Ground.phase }, { on := 10, ground := Ground.phase }], guard := none }) rfl (fun K hK => ?_) AllReadyH.nil
              go_simp
              refine hK.out _ _ (by with_reducible assumption) (fun hHeld => ?_)
              clear hK K
              refine wpAnyH_done (by kernel_rfl) ?_ _
              all_goals
                go_wp2_with fail
                go_roundw
                case rel => exact ⟨j + 1, by omega, by go_num, firstE_go HZ.out (HP.out.trans HR.out.symm), B3.out⟩
                case measure => simp [intOf]; omega
            · have h1 : (R != 0) = true := by simpa using h0
              have HE := Lib.hid (rowV_stop (p := (fun i => memC (f1 i) (f2 i) (g1 i) (g2 i))) HM.out HZ.out (fun e => h0 ((HR.out.trans HP.out.symm).trans e)) hlt)
              have HE2 := Lib.hid (HR.out.trans HP.out.symm)
              clear h0
              go_wp2_with fail
              refine wp_region_held_drew (S := fun W => Below W0.heap.size W0 W) (by kernel_rfl) (HDk.out _) (fun hHeld => ?_)
              refine wpAnyH_take (i := 0) (oi := { dst := some 77, op := Op.fieldAddr 25 (Operand.tmp 2) 4, type := 0, pos := "ref.go:62", after := #[], guard := none }) (v := ?_) rfl (by kernel_rfl) (by kernel_rfl) (by kernel_rfl) (fun _ _ _ h => h) (Or.inl ⟨by kernel_rfl, ?_⟩) (by with_reducible assumption) ?_
              rotate_left 1
              · (intro w0 hSw; obtain ⟨u4, _, v4, _⟩ := SQ.out _ hSw; (try dsimp only at hSw); go_simp; (try with_reducible rfl))
              simp only [Act.put]
              refine wpAnyH_take (i := 2) (oi := { dst := some 79, op := Op.move (Operand.tmp 5), type := 3, pos := "ref.go:62", after := #[], guard := none }) (v := ?_) rfl (by kernel_rfl) (by kernel_rfl) (by kernel_rfl) (fun _ _ _ h => h) (Or.inl ⟨by kernel_rfl, ?_⟩) (by with_reducible assumption) ?_
              rotate_left 1
              · (intro w0 hSw; obtain ⟨u4, _, v4, _⟩ := SQ.out _ hSw; (try dsimp only at hSw); go_simp; (try with_reducible rfl))
              simp only [Act.put]
              refine wpAnyH_take (i := 5) (oi := { dst := some 82, op := Op.fieldAddr 25 (Operand.tmp 3) 4, type := 0, pos := "ref.go:62", after := #[], guard := none }) (v := ?_) rfl (by kernel_rfl) (by kernel_rfl) (by kernel_rfl) (fun _ _ _ h => h) (Or.inl ⟨by kernel_rfl, ?_⟩) (by with_reducible assumption) ?_
              rotate_left 1
              · (intro w0 hSw; obtain ⟨u4, _, v4, _⟩ := SQ.out _ hSw; (try dsimp only at hSw); go_simp; (try with_reducible rfl))
              simp only [Act.put]
              refine wpAnyH_take (i := 7) (oi := { dst := some 84, op := Op.move (Operand.tmp 5), type := 3, pos := "ref.go:62", after := #[], guard := none }) (v := ?_) rfl (by kernel_rfl) (by kernel_rfl) (by kernel_rfl) (fun _ _ _ h => h) (Or.inl ⟨by kernel_rfl, ?_⟩) (by with_reducible assumption) ?_
              rotate_left 1
              · (intro w0 hSw; obtain ⟨u4, _, v4, _⟩ := SQ.out _ hSw; (try dsimp only at hSw); go_simp; (try with_reducible rfl))
              simp only [Act.put]
              refine wpAnyH_take (i := 1) (oi := { dst := some 78, op := Op.load 22 (Operand.tmp 77), type := 22, pos := "ref.go:62", after := #[{ on := 0, ground := Ground.data }], guard := none }) (v := ?_) rfl (by kernel_rfl) (by kernel_rfl) (by kernel_rfl) (fun _ _ _ h => h) (Or.inl ⟨by kernel_rfl, ?_⟩) (by with_reducible assumption) ?_
              rotate_left 1
              · (intro w0 hSw; obtain ⟨u4, _, v4, _⟩ := SQ.out _ hSw; (try dsimp only at hSw); go_simp; (try with_reducible rfl))
              simp only [Act.put]
              refine wpAnyH_take (i := 6) (oi := { dst := some 83, op := Op.load 22 (Operand.tmp 82), type := 22, pos := "ref.go:62", after := #[{ on := 5, ground := Ground.data }], guard := none }) (v := ?_) rfl (by kernel_rfl) (by kernel_rfl) (by kernel_rfl) (fun _ _ _ h => h) (Or.inl ⟨by kernel_rfl, ?_⟩) (by with_reducible assumption) ?_
              rotate_left 1
              · (intro w0 hSw; obtain ⟨u4, _, v4, _⟩ := SQ.out _ hSw; (try dsimp only at hSw); go_simp; (try with_reducible rfl))
              simp only [Act.put]
              refine wpAnyH_take (i := 3) (oi := { dst := some 80, op := Op.indexAddr 22 (Operand.tmp 78) (Operand.tmp 79), type := 0, pos := "ref.go:62", after := #[{ on := 1, ground := Ground.data }, { on := 2, ground := Ground.data }], guard := none }) (v := ?_) rfl (by kernel_rfl) (by kernel_rfl) (by kernel_rfl) (fun _ _ _ h => h) (Or.inl ⟨by kernel_rfl, ?_⟩) (by with_reducible assumption) ?_
              rotate_left 1
              · (intro w0 hSw; obtain ⟨u4, _, v4, _⟩ := SQ.out _ hSw; (try dsimp only at hSw); go_simp; (try with_reducible rfl))
              simp only [Act.put]
              refine wpAnyH_take (i := 8) (oi := { dst := some 85, op := Op.indexAddr 22 (Operand.tmp 83) (Operand.tmp 84), type := 0, pos := "ref.go:62", after := #[{ on := 6, ground := Ground.data }, { on := 7, ground := Ground.data }], guard := none }) (v := ?_) rfl (by kernel_rfl) (by kernel_rfl) (by kernel_rfl) (fun _ _ _ h => h) (Or.inl ⟨by kernel_rfl, ?_⟩) (by with_reducible assumption) ?_
              rotate_left 1
              · (intro w0 hSw; obtain ⟨u4, _, v4, _⟩ := SQ.out _ hSw; (try dsimp only at hSw); go_simp; (try with_reducible rfl))
              simp only [Act.put]
              refine wpAnyH_take (i := 4) (oi := { dst := some 81, op := Op.load 25 (Operand.tmp 80), type := 25, pos := "ref.go:62", after := #[{ on := 3, ground := Ground.data }], guard := none }) (v := .agg #[.int .i64 kj1, .bool bj1, .int .i64 nj1, .string sj1, .slice Aj1 mj1 cj1, .slice Bj1 qj1 dj1]) rfl (by kernel_rfl) (by kernel_rfl) (by kernel_rfl) (fun _ _ _ h => h) (yieldsIf_load_mid (by kernel_rfl) 25 (.tmp 80) rfl (x1) (o1 + j * 6) (by kernel_rfl) [.int .i64 kj1, .bool bj1, .int .i64 nj1, .string sj1, .slice Aj1 mj1 cj1, .slice Bj1 qj1 dj1] _ (fun W hW => (SQ.out W hW).2.1) Tryd.underlying25 rfl (by kernel_rfl)) (by with_reducible assumption) ?_
              simp only [Act.put]
              refine wpAnyH_take (i := 9) (oi := { dst := some 86, op := Op.load 25 (Operand.tmp 85), type := 25, pos := "ref.go:62", after := #[{ on := 8, ground := Ground.data }], guard := none }) (v := .agg #[.int .i64 kj2, .bool bj2, .int .i64 nj2, .string sj2, .slice Aj2 mj2 cj2, .slice Bj2 qj2 dj2]) rfl (by kernel_rfl) (by kernel_rfl) (by kernel_rfl) (fun _ _ _ h => h) (yieldsIf_load_mid (by kernel_rfl) 25 (.tmp 85) rfl (x2) (o2 + j * 6) (by kernel_rfl) [.int .i64 kj2, .bool bj2, .int .i64 nj2, .string sj2, .slice Aj2 mj2 cj2, .slice Bj2 qj2 dj2] _ (fun W hW => (SQ.out W hW).2.2.2) Tryd.underlying25 rfl (by kernel_rfl)) (by with_reducible assumption) ?_
              simp only [Act.put]
              refine wpAnyH_ready (rs := [10]) (by kernel_rfl) (by simp) ?_
              refine AllReadyH.cons (o := { dst := some 87, op := Op.call { callee := Callee.value (Operand.func 16), args := #[Operand.tmp 81, Operand.tmp 86], argTypes := #[25, 25] }, type := 3, pos := "ref.go:62", after := #[{ on := 4, ground := Ground.data }, { on := 9, ground := Ground.data }], guard := none }) rfl (fun K hK => ?_) AllReadyH.nil
              go_simp
              go_wp2_with (go_at_call 16; (with_reducible refine (CC.out _ (HD2.out _)).mono ?_); rintro e w3 ⟨rfl, l⟩; have hS3 := (HD2.out _).trans (l.mono (HD2.out _).size); have B3 := Lib.hid hS3; clear l)
              refine hK.out _ _ (by with_reducible assumption) (fun hHeld => ?_)
              clear hK K
              refine wpAnyH_ready (rs := [11]) (by kernel_rfl) (by simp) ?_
              refine AllReadyH.cons (o := { dst := some 6, op := Op.assign (Operand.tmp 87), type := 3, pos := "ref.go:62", after := #[{ on := 10, ground := Ground.data }, { on := 10, ground := Ground.chain }, { on := 0, ground := Ground.phase }, { on := 1, ground := Ground.phase }, { on := 2, ground := Ground.phase }, { on := 3, ground := Ground.phase }, { on := 4, ground := Ground.phase }, { on := 5, ground := Ground.phase }, { on := 6, ground := Ground.phase }, { on := 7, ground := Ground.phase }, { on := 8, ground := Ground.phase }, { on := 9, ground := Ground.phase }, { on := 10, ground := Ground.phase }], guard := none }) rfl (fun K hK => ?_) AllReadyH.nil
              go_simp
              refine hK.out _ _ (by with_reducible assumption) (fun hHeld => ?_)
              clear hK K
              refine wpAnyH_done (by kernel_rfl) ?_ _
              all_goals
                go_wp2_with fail
                go_ret
                exact ⟨ret_i (by rw [HE.out]; exact HE2.out), PW.out _ B3.out⟩
        · have e2 : ((g1 j).toList == (g2 j).toList) = false := by rw [ba_eq]; simpa using hn
          have HP := Lib.hid (show memC (f1 j) (f2 j) (g1 j) (g2 j) = cmpS (g1 j).data.toList (g2 j).data.toList from if_pos hn)
          have HE := Lib.hid (rowV_stop (p := (fun i => memC (f1 i) (f2 i) (g1 i) (g2 i))) HM.out HZ.out (fun e => hn ((name_cmp _ _).2 (HP.out.symm.trans e))) hlt)
          clear hiv1 hiv2 g10 g11 g12 g13 g14 g15 g20 g21 g22 g23 g24 g25 hR gn1 gn2 hn
          have NS := Lib.hid (show ∀ W : World, Below W0.heap.size W0 W → W.cell? ⟨w.heap.size, 5, none⟩ = some (.slice (some ⟨y1, p1, none⟩) m1 d1) ∧ W.cell? ⟨w.heap.size + 1, 5, none⟩ = some (.slice (some ⟨y2, p2, none⟩) m2 d2) ∧ W.cell? ⟨y1, p1 + j, none⟩ = some (.string (g1 j)) ∧ W.cell? ⟨y2, p2 + j, none⟩ = some (.string (g2 j)) from fun W hbel => by
            obtain ⟨_, _, _, _, _, u5, _, _, _, _, _, v5⟩ := KS.out _ hbel
            obtain ⟨t1, t2⟩ := NQ.out _ hbel
            exact ⟨u5, v5, t1, t2⟩)
          have KB := Lib.hid (fun W => refBytes_any (g1 j) (g2 j) W)
          go_wp2_with fail
          go_quiet (fail)
          all_goals
            go_wp2_with fail
            go_region_held_law (fun W => W.cell? ⟨w.heap.size, 5, none⟩ = some (.slice (some ⟨y1, p1, none⟩) m1 d1) ∧ W.cell? ⟨w.heap.size + 1, 5, none⟩ = some (.slice (some ⟨y2, p2, none⟩) m2 d2) ∧ W.cell? ⟨y1, p1 + j, none⟩ = some (.string (g1 j)) ∧ W.cell? ⟨y2, p2 + j, none⟩ = some (.string (g2 j)))
              (first | exact NS.out _ (HDk.out _) | exact NS.out _ (HD2.out _))
              ((go_at_call 31; refine (KB.out _).mono ?_; rintro e w3 ⟨rfl, rfl⟩))
            all_goals
              go_wp2_with fail
              go_ret
              exact ⟨ret_i (by rw [HE.out]; exact HP.out.symm), PW.out _ (by first | exact HDk.out _ | exact HD2.out _)⟩
      · obtain rfl : j = M := by omega
        have HE := Lib.hid (rowV_end (p := (fun i => memC (f1 i) (f2 i) (g1 i) (g2 i))) HM.out HZ.out)
        by_cases hm : j < m1
        · have hm2 : j = m2 := by have := HM.out; omega
          have hm3 : ¬ j < m2 := by omega
          clear hm2
          go_wp2_with fail
          refine (refNum_any _ _ _).mono ?_
          rintro e w3 ⟨rfl, rfl⟩
          go_wp2_with fail
          go_ret
          exact ⟨ret_i (by rw [HE.out]), PW.out _ HB.out⟩
        · go_wp2_with fail
          refine (refNum_any _ _ _).mono ?_
          rintro e w3 ⟨rfl, rfl⟩
          go_wp2_with fail
          go_ret
          exact ⟨ret_i (by rw [HE.out]), PW.out _ HB.out⟩
end Go.Proofs.YtpmhefdalhohdaaDoor
