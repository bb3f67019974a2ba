/- word's Words, as a reader of its words sees it; the law's awake. -/
import Derived.Test.YtoghdllppecblaaDoorQWords
import Derived.Test.YtoghdllppecblaaDoorQFacts
import Derived.Test.YtoghdllppecblaaDoorQStop
namespace Go.Proofs.YtoghdllppecblaaDoor
open Go.RowKit
set_option linter.unusedVariables false
set_option linter.unusedSimpArgs false

/-- Words that can be read. -/
def RdW (W : World) (A : Option Addr) (ws : List Wd) : Prop := ws ≠ [] → ∃ g, A = some ⟨g, 0, none⟩ ∧ g < W.heap.size ∧
  ∀ i wd, ws[i]? = some wd → W.cell? ⟨g, i * 3, none⟩ = some (.string (mkB wd.text)) ∧ W.cell? ⟨g, i * 3 + 1, none⟩ = some (.int .i64 (wd.a : Nat)) ∧ W.cell? ⟨g, i * 3 + 2, none⟩ = some (.int .i64 (wd.b : Nat))
theorem RdW.below {W W' : World} {A : Option Addr} {ws : List Wd} (h : RdW W A ws) (hb : Below W.heap.size W W') : RdW W' A ws := fun hne => by
  obtain ⟨g, hA, hg, hc⟩ := h hne
  exact ⟨g, hA, Nat.lt_of_lt_of_le hg hb.size, fun i wd hi => ⟨kp' hb hg (hc i wd hi).1, kp' hb hg (hc i wd hi).2.1, kp' hb hg (hc i wd hi).2.2⟩⟩
theorem words_read (t : List UInt8) (ht : t.length ≤ 1000000) (w : World) (hT : TabT w) : Calls Tryd.prog 14 #[.string (mkB t)] w fun e w' => ∃ A c, e = .returned (.slice A (wordsP t).length c) ∧ RdW w' A (wordsP t) ∧ Below w.heap.size w w' := by
  refine (words_any t ht w hT).mono ?_
  rintro e W ⟨v, he, ⟨hr, hn⟩, hb⟩
  have hr0 := hr
  rcases hr.2 with ⟨hv, h0⟩ | ⟨g, cap, cur, hv, hg, hh, _⟩
  · refine ⟨none, 0, by rw [he, hv, h0], fun hne => ?_, hb⟩
    exact absurd (hn.1 hv) hne
  · subst hv
    refine ⟨some ⟨g, 0, none⟩, cap, he, fun _ => ⟨g, rfl, (Array.getElem?_eq_some_iff.1 hh).1, fun i wd hi => ?_⟩, hb⟩
    have hil := (List.getElem?_eq_some_iff.1 hi).1
    have hc := fun j hj => World.ownsRow.cellAt (w := W) (base := w.heap.size) (e := 33) (size := 3) hr0 j hj
    have e0 := rowW_at _ i wd hi 0 (by omega)
    have e1 := rowW_at _ i wd hi 1 (by omega)
    have e2 := rowW_at _ i wd hi 2 (by omega)
    refine ⟨?_, ?_, ?_⟩
    · have := hc (i * 3) (by omega); rw [this]; exact e0
    · rw [hc _ (by omega), e1]; rfl
    · rw [hc _ (by omega), e2]; rfl
theorem fold_ae : foldL 198 = [97, 101] := by kernel_rfl
theorem stop_the : stopB [116, 104, 101] = true := by decide
theorem stop_cat : stopB [99, 97, 116] = false := by decide
set_option maxHeartbeats 2000000 in
theorem awake_any (w : World) (hT : TabT w) (hS : StopT w) : Calls Tryd.prog 12 #[] w fun e w' => e = .returned (.bool true) ∧ Below w.heap.size w w' := by
  have k1 := words_read [195, 156, 98, 101, 114, 45, 71, 114, 195, 182, 195, 159, 101, 32, 52, 50] (by simp) w hT
  rw [awake_words] at k1
  have k2 := fun W hW => fold_any 198 (by omega) W hW
  rw [fold_ae] at k2
  have ha0 : ((mkB [97, 101]).toList == [97, 101]) = true := by rw [ByteArray.toList_eq]; rfl
  have ha1 : ((mkB [117, 98, 101, 114]).toList == [117, 98, 101, 114]) = true := by rw [ByteArray.toList_eq]; rfl
  have ha2 : ((mkB [103, 114, 111, 115, 115, 101]).toList == [103, 114, 111, 115, 115, 101]) = true := by rw [ByteArray.toList_eq]; rfl
  have ha3 : ((mkB [52, 50]).toList == [52, 50]) = true := by rw [ByteArray.toList_eq]; rfl
  have k3 := fun W hW => stop_any [116, 104, 101] W hW
  simp only [stop_the, show mkB [116, 104, 101] = ⟨#[116, 104, 101]⟩ from rfl] at k3
  have k4 := fun W hW => stop_any [99, 97, 116] W hW
  simp only [stop_cat, show mkB [99, 97, 116] = ⟨#[99, 97, 116]⟩ from rfl] at k4
  have K1 := Lib.hid k1
  have K2 := Lib.hid k2
  have K3 := Lib.hid k3
  have K4 := Lib.hid k4
  have HT := Lib.hid hT
  have HS := Lib.hid hS
  clear k1 k2 k3 k4 hT hS
  go_enter Tryd.func12, Tryd.ntmps12
  go_wp2_with fail
  refine (Calls.mono (R := _) K1.out ?_)
  rintro _ w1 ⟨A, c, rfl, hr, l1⟩
  obtain ⟨g, rfl, hg, hc⟩ := hr (by simp)
  obtain ⟨c0, _, _⟩ := hc 0 _ rfl
  obtain ⟨c3, _, _⟩ := hc 1 _ rfl
  obtain ⟨c6, _, _⟩ := hc 2 _ rfl
  have L1 := Lib.hid l1
  clear l1 hc hr
  go_wp2_with fail
  (with_reducible refine (K2.out _ (HT.out.below L1.out)).mono ?_); rintro _ w2 ⟨rfl, l2⟩
  have L2 := Lib.hid (below2' L1.out l2)
  clear l2
  go_wp2_with fail
  (with_reducible refine (K3.out _ (HS.out.below L2.out)).mono ?_); rintro _ w3 ⟨rfl, l3⟩
  have L3 := Lib.hid (below2' L2.out l3)
  clear l3
  go_wp2_with fail
  (with_reducible refine (K4.out _ (HS.out.below L3.out)).mono ?_); rintro _ w4 ⟨rfl, l4⟩
  have L4 := Lib.hid (below2' L3.out l4)
  clear l4
  go_wp2
  go_ret
  exact ⟨rfl, L4.out⟩
end Go.Proofs.YtoghdllppecblaaDoor
