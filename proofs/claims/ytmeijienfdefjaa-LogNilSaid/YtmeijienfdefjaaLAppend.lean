/- log's Append. -/
import Derived.Test.YtmeijienfdefjaaLWrite
namespace Go.Proofs.Ytmeijienfdefjaa
open Go.RowKit
set_option linter.unusedVariables false

theorem Grp.below {w w' : World} {M : DM} {bb o n : Nat} {X : Nat → ChD} (h : Grp w M bb o n X) (l : Below w.heap.size w w') : Grp w' M bb o n X :=
  ⟨h.lt, fun i hi => ⟨(h.ok i hi).by_.below l (Nat.le_refl _), (h.ok i hi).mc, (h.ok i hi).cc, (h.ok i hi).nil_, (h.ok i hi).aw⟩, h.aw, fun i hi => ⟨kept_l l (cell_lt' (h.at_ i hi).c0) (h.at_ i hi).c0, kept_l l (cell_lt' (h.at_ i hi).c1) (h.at_ i hi).c1⟩⟩
theorem Grp.chs {w : World} {M : DM} {bb o n : Nat} {X : Nat → ChD} (h : Grp w M bb o n X) : Chs w (some ⟨bb, o, none⟩) n X :=
  ⟨by have := h.lt; omega, fun i hi => (h.ok i hi).by_.1, fun _ => ⟨bb, o, rfl, h.at_⟩⟩
theorem refuse_zero {dead : Bool} {n : Nat} {X : Nat → ChD} {room left : Int} (h : refuseI dead n X room left = 0) : dead = false ∧ 1 ≤ n ∧ (∀ i, i < n → pageB (X i)) ∧ (∀ i, i < n → ((X i).m : Int) = room) ∧ (n : Int) ≤ left := by
  unfold refuseI at h
  split at h
  · cases h
  split at h
  · cases h
  split at h
  · cases h
  split at h
  · cases h
  split at h
  · cases h
  rename_i h1 h2 h3 h4 h5
  exact ⟨by simpa using h1, by omega, fun i hi => Classical.byContradiction fun q => h3 ⟨i, hi, q⟩, fun i hi => Classical.byContradiction fun q => h4 ⟨i, hi, q⟩, by omega⟩
/-- What Append tells and leaves. -/
def AppP [Spare] (b f cn ep nx : Nat) (dead : Bool) (n : Nat) (X : Nat → ChD) (base : Nat) (M : DM) (S : DS) (w : World) (e : Ending) (w' : World) : Prop :=
  (refuseI dead n X ((S.size : Int) - 45) ((cn : Int) - nx) ≠ 0 ∧ e = .returned (.int .i64 (refuseI dead n X ((S.size : Int) - 45) ((cn : Int) - nx))) ∧ Below w.heap.size w w') ∨
    (refuseI dead n X ((S.size : Int) - 45) ((cn : Int) - nx) = 0 ∧ ∃ w1 w8 I, Below w.heap.size w w1 ∧ WrP (f + nx) S.size n (logSec S.size ep nx n X) base M S w1 (.returned (.int .i64 I)) w8 ∧ e = .returned (.int .i64 I) ∧
      (I = 0 ∧ w' = w8.setCell ⟨b, 4, none⟩ (.int .i64 ((nx : Int) + n)) ∨ I ≠ 0 ∧ w' = w8.setCell ⟨b, 5, none⟩ (.bool true)))
theorem WrP.told [Spare] {at0 sz n base : Nat} {sec : Nat → Nat → Nat} {M : DM} {S : DS} {w w' : World} {e : Ending} (h : WrP at0 sz n sec base M S w e w') : (∃ I, e = .returned (.int .i64 I)) ∧ Turns base M w w' := by
  rcases h with ⟨k, _, _, _, rfl, l⟩ | ⟨_, rfl, l⟩
  · exact ⟨⟨_, rfl⟩, l.turns⟩
  · exact ⟨⟨_, rfl⟩, l.turns⟩
set_option maxHeartbeats 2000000 in
set_option maxRecDepth 100000 in
theorem append_any [Spare] (b f cn ep nx : Nat) (dead : Bool) (bb o n c : Nat) (X : Nat → ChD) (w : World) (base : Nat) (M : DM) (S : DS) (h : Dsk w base M S) (hbase : base ≤ w.heap.size) (hL : S.loose.length + n < 1000000)
    (hl : w.heap[b]? = some (.cells (lgCells M.p f cn ep nx dead) 85 (0, 0))) (hab : AwB M b) (hf : f ≤ 1048576) (hcn : cn ≤ 1048576) (hnx : nx ≤ cn) (he1 : 1 ≤ ep) (he2 : ep ≤ 1099511627776) (hG : Grp w M bb o n X) :
    Calls Try.prog 17 #[.pointer (some ⟨b, 0, none⟩), .slice (some ⟨bb, o, none⟩) n c] w (AppP b f cn ep nx dead n X base M S w) := by
  have hb : b < w.heap.size := (Array.getElem?_eq_some_iff.1 hl).1
  have KR := Lib.hid (refuse_any b f cn ep nx dead (some ⟨bb, o, none⟩) n c X w base M S h hl (by omega) (by omega) (by omega) (by omega) hG.chs)
  obtain ⟨R, hR⟩ : ∃ R, R = refuseI dead n X ((S.size : Int) - 45) ((cn : Int) - nx) := ⟨_, rfl⟩
  rw [← hR] at KR
  have HR := Lib.hid hR
  have HH := Lib.hid h
  have HL := Lib.hid hl
  have HG := Lib.hid hG
  have hn := hG.lt
  clear h hl hG hR
  go_enter Try.func17, Try.ntmps17
  go_wp2_with fail
  refine KR.out.mono ?_
  rintro e w1 ⟨rfl, l1⟩
  have L1 := Lib.hid l1
  clear l1
  by_cases hz : R = 0
  case neg =>
    have hzb : (R != 0) = true := by simpa using hz
    have HZ := Lib.hid (show refuseI dead n X ((S.size : Int) - 45) ((cn : Int) - nx) ≠ 0 by rw [← HR.out]; exact hz)
    clear hz
    go_wp2
    go_ret
    exact .inl ⟨HZ.out, by rw [← HR.out]; rfl, L1.out⟩
  subst hz
  obtain ⟨z1, z2, z3, z4, z5⟩ := refuse_zero HR.out.symm
  subst z1
  have KW := Lib.hid (lwrite_any b f cn ep nx false bb o n c X w1 base M S (HH.out.below L1.out) (Nat.le_trans hbase L1.out.size) hL ((L1.out.block b hb).trans HL.out) hab hf (by omega) he1 he2 (HG.out.below L1.out) (fun i hi => by have := z4 i hi; omega) z3)
  have Z5 := z5
  clear z3 z4 z5
  go_wp2_with fail
  refine KW.out.mono ?_
  rintro e w8 hw
  obtain ⟨⟨I, rfl⟩, t8⟩ := hw.told
  have HW := Lib.hid hw
  have hl8 := (t8.block b (Nat.lt_of_lt_of_le hb L1.out.size) hab.1 hab.2.1 hab.2.2.1 hab.2.2.2).trans ((L1.out.block b hb).trans HL.out)
  have q4 : w8.cell? ⟨b, 4, none⟩ = some (.int .i64 (nx : Int)) := by simp [World.cell?, hl8, lgCells]
  have q5 : w8.cell? ⟨b, 5, none⟩ = some (.bool false) := by simp [World.cell?, hl8, lgCells]
  have s4 : w8.frozen? ⟨b, 4, none⟩ = false := by simp [World.frozen?, hl8]
  have s5 : w8.frozen? ⟨b, 5, none⟩ = false := by simp [World.frozen?, hl8]
  clear hw t8 hl8
  by_cases hI : I = 0
  · subst hI
    have hw4 : IntKind.i64.wrap ((nx : Int) + (n : Int)) = (nx : Int) + n := by rw [IntKind.wrap_i64]; omega
    go_wp2
    go_ret
    exact .inr ⟨HR.out.symm, w1, w8, 0, L1.out, HW.out, rfl, .inl ⟨rfl, rfl⟩⟩
  · have hzb : (I != 0) = true := by simpa using hI
    go_wp2
    go_ret
    exact .inr ⟨HR.out.symm, w1, w8, I, L1.out, HW.out, rfl, .inr ⟨hI, rfl⟩⟩
end Go.Proofs.Ytmeijienfdefjaa
