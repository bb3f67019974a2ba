/- num.cut: the walk. -/
import Derived.Test.YtoeddhkbifeamaaDoorNCut
import Derived.Deep.DeepCutAuto
import Derived.Deep.CutRange
import Derived.Lib.Strings
namespace Go.Proofs.YtoeddhkbifeamaaDoor
open Go.RowKit
set_option linter.unusedVariables false

def CutPost (w : World) (p : Pc) (e : Ending) (w' : World) : Prop := e = .returned p.val ∧ Below w.heap.size w w'
theorem cs_ret {w : World} {g i : Nat} {s : ByteArray} {P : Array Value} {wx : World} (h : CS w g i s P wx) (p : Pc) :
    CutPost w p (.returned p.val) (six wx (w.heap.size + 1) (.bool p.below) (.string p.whole) (.string p.rest) (.bool p.down) (.string p.exponent) (.int .i64 p.length)) :=
  ⟨rfl, below_six h.below (by omega) _ _ _ _ _ _⟩
theorem cs_exit {w : World} {g i : Nat} {s : ByteArray} {P : Array Value} {wx : World} (h : CS w g i s P wx) (p : Pc) (a : Act) (hd : a.defers = []) (h2 : a.tmps[2]?.getD undef = .pointer (some ⟨w.heap.size + 1, 0, none⟩)) :
    bodyPost Tryd.prog Tryd.f20 (CutPost w p) Exit.ret a (six wx (w.heap.size + 1) (.bool p.below) (.string p.whole) (.string p.rest) (.bool p.down) (.string p.exponent) (.int .i64 p.length)) := by
  have hb := six_stores wx (w.heap.size + 1) _ _ _ _ _ _ _ (.bool p.below) (.string p.whole) (.string p.rest) (.bool p.down) (.string p.exponent) (.int .i64 p.length) h.r
  have PF := cs_ret h p
  generalize six wx (w.heap.size + 1) (.bool p.below) (.string p.whole) (.string p.rest) (.bool p.down) (.string p.exponent) (.int .i64 p.length) = W at hb PF ⊢
  have u0 := cell_of_row W _ 0 _ _ _ hb
  have u1 := cell_of_row W _ 1 _ _ _ hb
  have u2 := cell_of_row W _ 2 _ _ _ hb
  have u3 := cell_of_row W _ 3 _ _ _ hb
  have u4 := cell_of_row W _ 4 _ _ _ hb
  have u5 := cell_of_row W _ 5 _ _ _ hb
  exact bodyPost_ret (v := p.val) (by simp [results, Tryd.results20, go_sem, h2, u0, u1, u2, u3, u4, u5, Pc.val]) hd PF
theorem cs_start {w w1 : World} {i : Nat} {s : ByteArray} (b : Bool)
    (h1 : At w1 (w.heap.size + 2) w.heap.size i s)
    (g1 : World.grownBy (((w.alloc (.cells #[.string s] 9)).alloc (.cells (sixP false ⟨#[]⟩ ⟨#[]⟩ false ⟨#[]⟩ 0) 39)).alloc (.cells #[.int .i64 0] 3)) w1 (some (w.heap.size + 2))) :
    CS w w1.heap.size i s (sixP b ⟨#[]⟩ ⟨#[]⟩ false ⟨#[]⟩ 0) (w1.alloc (.cells (sixP b ⟨#[]⟩ ⟨#[]⟩ false ⟨#[]⟩ 0) 39)) := by
  have z1 := lt_of_block h1.1
  have zr : w1.heap[w.heap.size + 1]? = some (.cells (sixP false ⟨#[]⟩ ⟨#[]⟩ false ⟨#[]⟩ 0) 39 (0, 0)) := by
    refine (g1.block _ (by simp) (by simp)).trans ?_
    refine (Below.heap_alloc _ _ _ (by simp)).trans ?_
    have := heap_alloc_new (w.alloc (.cells #[.string s] 9)) (.cells (sixP false ⟨#[]⟩ ⟨#[]⟩ false ⟨#[]⟩ 0) 39)
    simpa using this
  refine ⟨⟨(Below.heap_alloc _ _ _ z1).trans h1.1, (Below.heap_alloc _ _ _ (by omega)).trans h1.2⟩, (Below.heap_alloc _ _ _ (by omega)).trans zr, heap_alloc_new _ _, by omega, ?_⟩
  refine (Below.grown ?_ g1 (by simp; omega) (by rintro j ⟨⟩; omega)).alloc (by omega) _
  exact (((Below.refl w.heap.size w).alloc (Nat.le_refl _) (.cells #[.string s] 9)).alloc (by simp) (.cells (sixP false ⟨#[]⟩ ⟨#[]⟩ false ⟨#[]⟩ 0) 39)).alloc (by simp; omega) (.cells #[.int .i64 0] 3)
theorem at_start (w : World) (s : ByteArray) :
    At (((w.alloc (.cells #[.string s] 9)).alloc (.cells (sixP false ⟨#[]⟩ ⟨#[]⟩ false ⟨#[]⟩ 0) 39)).alloc (.cells #[.int .i64 0] 3)) (w.heap.size + 2) w.heap.size 0 s := by
  refine ⟨?_, (Below.heap_alloc _ _ _ (by simp; omega)).trans ((Below.heap_alloc _ _ _ (by simp)).trans (heap_alloc_new w _))⟩
  have := heap_alloc_new ((w.alloc (.cells #[.string s] 9)).alloc (.cells (sixP false ⟨#[]⟩ ⟨#[]⟩ false ⟨#[]⟩ 0) 39)) (.cells #[.int .i64 0] 3)
  simpa using this
section
variable {w0 w : World} {g i : Nat} {s : ByteArray} {b dn : Bool} {wh re ex : ByteArray} {n : Nat}
theorem CS.set1 (h : CS w0 g i s (sixP b wh re dn ex n) w) (v : ByteArray) : CS w0 g i s (sixP b v re dn ex n) (w.setCell ⟨g, 1, none⟩ (.string v)) := h.set 1 (.string v)
theorem CS.set2 (h : CS w0 g i s (sixP b wh re dn ex n) w) (v : ByteArray) : CS w0 g i s (sixP b wh v dn ex n) (w.setCell ⟨g, 2, none⟩ (.string v)) := h.set 2 (.string v)
theorem CS.set3 (h : CS w0 g i s (sixP b wh re dn ex n) w) (v : Bool) : CS w0 g i s (sixP b wh re v ex n) (w.setCell ⟨g, 3, none⟩ (.bool v)) := h.set 3 (.bool v)
theorem CS.set4 (h : CS w0 g i s (sixP b wh re dn ex n) w) (v : ByteArray) : CS w0 g i s (sixP b wh re dn v n) (w.setCell ⟨g, 4, none⟩ (.string v)) := h.set 4 (.string v)
theorem CS.set5 (h : CS w0 g i s (sixP b wh re dn ex n) w) (v : Nat) : CS w0 g i s (sixP b wh re dn ex v) (w.setCell ⟨g, 5, none⟩ (.int .i64 v)) := h.set 5 (.int .i64 v)
theorem CS.y1 (h : CS w0 g i s (sixP b wh re dn ex n) w) : w.cell? ⟨g, 1, none⟩ = some (.string wh) := h.cell 1 _ rfl
theorem CS.y2 (h : CS w0 g i s (sixP b wh re dn ex n) w) : w.cell? ⟨g, 2, none⟩ = some (.string re) := h.cell 2 _ rfl
theorem CS.y3 (h : CS w0 g i s (sixP b wh re dn ex n) w) : w.cell? ⟨g, 3, none⟩ = some (.bool dn) := h.cell 3 _ rfl
theorem CS.y4 (h : CS w0 g i s (sixP b wh re dn ex n) w) : w.cell? ⟨g, 4, none⟩ = some (.string ex) := h.cell 4 _ rfl
theorem CS.y5 (h : CS w0 g i s (sixP b wh re dn ex n) w) : w.cell? ⟨g, 5, none⟩ = some (.int .i64 n) := h.cell 5 _ rfl
theorem CS.y0 (h : CS w0 g i s (sixP b wh re dn ex n) w) : w.cell? ⟨g, 0, none⟩ = some (.bool b) := h.cell 0 _ rfl
theorem CS.rs (h : CS w0 g i s (sixP b wh re dn ex n) w) : w.cell? ⟨w0.heap.size + 1, 0, none⟩ = some (.bool false) ∧ w.cell? ⟨w0.heap.size + 1, 1, none⟩ = some (.string ⟨#[]⟩) ∧ w.cell? ⟨w0.heap.size + 1, 2, none⟩ = some (.string ⟨#[]⟩) ∧
    w.cell? ⟨w0.heap.size + 1, 3, none⟩ = some (.bool false) ∧ w.cell? ⟨w0.heap.size + 1, 4, none⟩ = some (.string ⟨#[]⟩) ∧ w.cell? ⟨w0.heap.size + 1, 5, none⟩ = some (.int .i64 0) :=
  ⟨h.rcell 0 _ rfl, h.rcell 1 _ rfl, h.rcell 2 _ rfl, h.rcell 3 _ rfl, h.rcell 4 _ rfl, h.rcell 5 _ rfl⟩
theorem CS.rf (h : CS w0 g i s (sixP b wh re dn ex n) w) : w.frozen? ⟨w0.heap.size + 1, 0, none⟩ = false ∧ w.frozen? ⟨w0.heap.size + 1, 1, none⟩ = false ∧ w.frozen? ⟨w0.heap.size + 1, 2, none⟩ = false ∧
    w.frozen? ⟨w0.heap.size + 1, 3, none⟩ = false ∧ w.frozen? ⟨w0.heap.size + 1, 4, none⟩ = false ∧ w.frozen? ⟨w0.heap.size + 1, 5, none⟩ = false :=
  ⟨h.rfree 0, h.rfree 1, h.rfree 2, h.rfree 3, h.rfree 4, h.rfree 5⟩
theorem CS.here' (h : CS w0 g i s (sixP b wh re dn ex n) w) : w.cell? ⟨w0.heap.size + 1 + 1, 0, none⟩ = some (.int .i64 i) := h.here
end
/-- Behind the figures ahead of the point. -/
def R1 (w : World) (g : Nat) (s : ByteArray) (wx : World) : Prop :=
  ∃ (i : Nat) (wh : ByteArray), i ≤ s.size ∧ CS w g i s (sixP (signAt s 0 [45]) wh ⟨#[]⟩ false ⟨#[]⟩ 0) wx ∧
    ((wh = ⟨#[]⟩ ∧ cutP s = noPc) ∨ (wh.toList.isEmpty = false ∧ cutP s = cutDot s (signAt s 0 [45]) wh i))
/-- Behind those behind it. -/
def R2 (w : World) (g : Nat) (s : ByteArray) (wh : ByteArray) (wx : World) : Prop :=
  ∃ (i : Nat) (re : ByteArray), i ≤ s.size ∧ CS w g i s (sixP (signAt s 0 [45]) wh re false ⟨#[]⟩ i) wx ∧ cutP s = cutTail s (signAt s 0 [45]) wh re i
theorem nonempty_of (X : ByteArray) (h : X.size ≠ 0) : X.toList.isEmpty = false := by
  have e : X.toList.length = X.size := by rw [Lib.toList_data]; simp
  cases hl : X.toList with
  | nil => rw [hl] at e; simp at e; omega
  | cons _ _ => rfl
theorem nonempty_cut (s : ByteArray) (i r : Nat) (h : i + r ≤ s.size) (h0 : r ≠ 0) : (s.extract i (i + r)).toList.isEmpty = false := by
  exact nonempty_of _ (by rw [ByteArray.size_extract]; omega)
set_option maxHeartbeats 4000000 in
set_option maxRecDepth 100000 in
theorem cut_any (s : ByteArray) (w : World) (hs : s.size ≤ 9223372036854775807) :
    Calls Tryd.prog 20 #[.string s] w (CutPost w (cutP s)) := by
  go_enter Tryd.func20, Tryd.ntmps20
  go_wp2_with fail
  refine (took_any ⟨#[45]⟩ (w.heap.size + 2) w.heap.size 0 s _ (at_start w s) (Nat.zero_le _) hs).mono ?_
  rintro e w1 ⟨rfl, h1, g1⟩
  have c1 := cs_start (signAt s 0 [45]) h1 g1
  have hi0 := tookI_le s 0 [45] (Nat.zero_le _)
  obtain ⟨b0, hb0⟩ : ∃ b, b = signAt s 0 [45] := ⟨_, rfl⟩
  obtain ⟨i0, hi⟩ : ∃ i, i = tookI s 0 [45] := ⟨_, rfl⟩
  have C1 : Hid (CS w w1.heap.size i0 s (sixP b0 ⟨#[]⟩ ⟨#[]⟩ false ⟨#[]⟩ 0) (w1.alloc (.cells (sixP b0 ⟨#[]⟩ ⟨#[]⟩ false ⟨#[]⟩ 0) 39))) := by rw [hi, hb0]; exact Lib.hid c1
  rw [← hi] at hi0
  have HI := Lib.hid hi
  have HB := Lib.hid hb0
  rw [show signAt s 0 ((⟨#[45]⟩ : ByteArray).data.toList) = b0 from hb0.symm]
  clear h1 g1 c1 hi hb0
  go_wp2_with fail
  refine (took_any ⟨#[48]⟩ (w.heap.size + 2) w.heap.size i0 s _ C1.out.at_ hi0 hs).mono ?_
  rintro e w2 ⟨rfl, h2, g2⟩
  have c2 := C1.out.turned h2 g2
  have H2 := Lib.hid c2
  clear h2 g2 c2
  go_upto_if 13 with (fail)
  go_cut [13] (fun _ wx => R1 w w1.heap.size s wx)
  case first =>
    cases hz : signAt s i0 [48]
    · rw [show tookI s i0 [48] = i0 from if_neg (by rw [hz]; simp)] at H2
      by_cases hr : runAt s i0 = 0
      · have HR := Lib.hid (show cutP s = noPc by unfold cutP; rw [← HI.out, hz, if_neg (by simp), if_pos hr])
        have HF := Lib.hid hr
        clear hz hr
        go_wp2_with fail
        refine (figures_none H2.out.at_ hi0 hs HF.out).mono ?_
        rintro e w3 ⟨rfl, h3, g3⟩
        have c3 := H2.out.turned h3 g3
        have y1 := c3.y1
        have f1 := c3.free 1
        have C3 := Lib.hid c3
        clear h3 g3 c3
        go_wp2
        go_meet
        case rel => exact ⟨i0, ⟨#[]⟩, hi0, HB.out ▸ C3.out.set1 ⟨#[]⟩, .inl ⟨rfl, HR.out⟩⟩
      · obtain ⟨j, hj⟩ : ∃ j, j = i0 + runAt s i0 := ⟨_, rfl⟩
        obtain ⟨X, hX⟩ : ∃ X, X = s.extract i0 j := ⟨_, rfl⟩
        have HR := Lib.hid (show cutP s = cutDot s b0 X j by unfold cutP; rw [← HI.out, hz, if_neg (by simp), if_neg hr, ← hj, ← hX, ← HB.out])
        have hle := runAt_le s i0 hi0
        have HE := Lib.hid (show X.toList.isEmpty = false by rw [hX, hj]; exact nonempty_cut s i0 _ hle hr)
        have hj2 : j ≤ s.size := by omega
        have HJ := Lib.hid hj
        have HX := Lib.hid hX
        clear hz hr hj hX hle
        go_wp2_with fail
        refine (figures_some X H2.out.at_ hi0 hs HJ.out HX.out).mono ?_
        rintro e w3 ⟨rfl, h3, g3⟩
        have c3 := H2.out.turned h3 g3
        have y1 := c3.y1
        have f1 := c3.free 1
        have C3 := Lib.hid c3
        clear h3 g3 c3
        go_wp2
        go_meet
        case rel => exact ⟨j, X, hj2, HB.out ▸ C3.out.set1 X, .inr ⟨HE.out, HB.out ▸ HR.out⟩⟩
    · rw [show tookI s i0 [48] = i0 + 1 from if_pos hz] at H2
      have HR := Lib.hid (show cutP s = cutDot s b0 ⟨#[48]⟩ (i0 + 1) by unfold cutP; rw [← HI.out, hz, if_pos rfl, ← HB.out])
      have hl := signAt_lt hz
      have y1 := H2.out.y1
      have f1 := H2.out.free 1
      clear hz
      go_wp2
      go_meet
      case rel => exact ⟨i0 + 1, ⟨#[48]⟩, by omega, HB.out ▸ H2.out.set1 ⟨#[48]⟩, .inr ⟨nonempty_of _ (by decide), HB.out ▸ HR.out⟩⟩
  case rest =>
    obtain ⟨i1, wh, hi1, c1', hor⟩ := hcut
    rw [← HB.out] at c1' hor
    have CC := Lib.hid c1'
    have y1 := c1'.y1
    clear c1' C1 H2 HI hi0
    rcases hor with ⟨rfl, hn⟩ | ⟨he, hd⟩
    · have HN := Lib.hid hn
      clear hn
      obtain ⟨r0, r1, r2, r3, r4, r5⟩ := CC.out.rs
      obtain ⟨q0, q1, q2, q3, q4, q5⟩ := CC.out.rf
      go_wp2
      exact HN.out.symm ▸ cs_exit CC.out noPc _ rfl rfl
    · have HD := Lib.hid hd
      have yh := CC.out.here'
      have f5 := CC.out.free 5
      have y5 := CC.out.y5
      clear hd
      go_wp2_with fail
      have C5 := Lib.hid (CC.out.set5 i1)
      refine (took_any ⟨#[46]⟩ (w.heap.size + 2) w.heap.size i1 s _ C5.out.at_ hi1 hs).mono ?_
      rintro e w3 ⟨rfl, h3, g3⟩
      have H3 := Lib.hid (C5.out.turned h3 g3)
      clear h3 g3 y1 yh f5 y5 C5 CC
      go_upto_if 25 with (fail)
      go_cut [25] (fun _ wx => R2 w w1.heap.size s wh wx)
      case first =>
        cases hz : signAt s i1 [46]
        · rw [show tookI s i1 [46] = i1 from if_neg (by rw [hz]; simp)] at H3
          have HR := Lib.hid (show cutP s = cutTail s b0 wh ⟨#[]⟩ i1 by rw [HD.out]; unfold cutDot; rw [hz, if_neg (by simp)])
          clear hz
          go_wp2
          go_meet
          case rel => exact ⟨i1, ⟨#[]⟩, hi1, HB.out ▸ H3.out, HB.out ▸ HR.out⟩
        · rw [show tookI s i1 [46] = i1 + 1 from if_pos hz] at H3
          have hl := signAt_lt hz
          by_cases hr : runAt s (i1 + 1) = 0
          · have HR := Lib.hid (show cutP s = ⟨b0, wh, ⟨#[]⟩, false, ⟨#[]⟩, i1⟩ by rw [HD.out]; unfold cutDot; rw [hz, if_pos rfl, if_pos hr])
            have HF := Lib.hid hr
            clear hz hr
            go_wp2_with fail
            refine (figures_none H3.out.at_ (by omega) hs HF.out).mono ?_
            rintro e w4 ⟨rfl, h4, g4⟩
            have c4 := H3.out.turned h4 g4
            have y2 := c4.y2
            have f2 := c4.free 2
            have C4 := Lib.hid (c4.set2 ⟨#[]⟩)
            clear h4 g4 c4
            go_upto_region 13 with (fail)
            revert C4
            clear y2 f2
            generalize w4.setCell ⟨w1.heap.size, 2, none⟩ (.string ⟨#[]⟩) = w5
            intro C5
            obtain ⟨r0, r1, r2, r3, r4, r5⟩ := C5.out.rs
            obtain ⟨q0, q1, q2, q3, q4, q5⟩ := C5.out.rf
            have y0 := C5.out.y0
            have y1 := C5.out.y1
            have y2 := C5.out.y2
            have y3 := C5.out.y3
            have y4 := C5.out.y4
            have y5 := C5.out.y5
            go_wp2
            exact HR.out.symm ▸ cs_exit C5.out ⟨b0, wh, ⟨#[]⟩, false, ⟨#[]⟩, i1⟩ _ rfl rfl
          · obtain ⟨j, hj⟩ : ∃ j, j = i1 + 1 + runAt s (i1 + 1) := ⟨_, rfl⟩
            obtain ⟨X, hX⟩ : ∃ X, X = s.extract (i1 + 1) j := ⟨_, rfl⟩
            have HR := Lib.hid (show cutP s = cutTail s b0 wh X j by rw [HD.out]; unfold cutDot; rw [hz, if_pos rfl, if_neg hr, ← hj, ← hX])
            have hle := runAt_le s (i1 + 1) (by omega)
            have he2 : X.toList.isEmpty = false := by rw [hX, hj]; exact nonempty_cut s (i1 + 1) _ hle hr
            have hj2 : j ≤ s.size := by omega
            have HJ := Lib.hid hj
            have HX := Lib.hid hX
            clear hz hr hj hX hle
            go_wp2_with fail
            refine (figures_some X H3.out.at_ (by omega) hs HJ.out HX.out).mono ?_
            rintro e w4 ⟨rfl, h4, g4⟩
            have c4 := H3.out.turned h4 g4
            have y2 := c4.y2
            have f2 := c4.free 2
            have C4 := Lib.hid (c4.set2 X)
            clear h4 g4 c4
            go_upto_region 13 with (fail)
            revert C4
            clear y2 f2
            generalize w4.setCell ⟨w1.heap.size, 2, none⟩ (.string X) = w5
            intro C5
            have y2 := C5.out.y2
            have y5 := C5.out.y5
            have yh := C5.out.here'
            have f5 := C5.out.free 5
            go_wp2
            go_meet
            case rel => exact ⟨j, X, hj2, HB.out ▸ C5.out.set5 j, HB.out ▸ HR.out⟩
      case rest =>
        obtain ⟨i2, re, hi2, c2', hd2⟩ := hcut
        rw [← HB.out] at c2' hd2
        have CC := Lib.hid c2'
        have HD2 := Lib.hid hd2
        clear c2' hd2 H3 hi1 HD he
        cases hz : signAt s i2 [101, 69]
        · have HR := Lib.hid (show cutP s = ⟨b0, wh, re, false, ⟨#[]⟩, i2⟩ by rw [HD2.out]; unfold cutTail; rw [hz, if_neg (by simp)])
          have HZ := Lib.hid hz
          clear hz
          go_wp2_with fail
          refine (took_no ⟨#[101, 69]⟩ CC.out.at_ hi2 hs HZ.out).mono ?_
          rintro e w4 ⟨rfl, h4, g4⟩
          have C5 := Lib.hid (CC.out.turned h4 g4)
          clear h4 g4
          obtain ⟨r0, r1, r2, r3, r4, r5⟩ := C5.out.rs
          obtain ⟨q0, q1, q2, q3, q4, q5⟩ := C5.out.rf
          have y0 := C5.out.y0
          have y1 := C5.out.y1
          have y2 := C5.out.y2
          have y3 := C5.out.y3
          have y4 := C5.out.y4
          have y5 := C5.out.y5
          go_wp2
          exact HR.out.symm ▸ cs_exit C5.out ⟨b0, wh, re, false, ⟨#[]⟩, i2⟩ _ rfl rfl
        · have hl := signAt_lt hz
          have HZ := Lib.hid hz
          go_wp2_with fail
          refine (took_yes ⟨#[101, 69]⟩ CC.out.at_ hs HZ.out).mono ?_
          rintro e w4 ⟨rfl, h4, g4⟩
          have C5 := Lib.hid (CC.out.turned h4 g4)
          clear h4 g4 CC
          cases hy : signAt s (i2 + 1) [45]
          · have HY := Lib.hid hy
            have HX := Lib.hid (show expI s i2 = tookI s (i2 + 1) [43] from if_neg (by rw [hy]; simp))
            have hl2 := tookI_le s (i2 + 1) [43] (by omega)
            clear hy hz
            go_wp2_with fail
            refine (took_no ⟨#[45]⟩ C5.out.at_ (by omega) hs HY.out).mono ?_
            rintro e w6 ⟨rfl, h6, g6⟩
            have c6 := C5.out.turned h6 g6
            have y3 := c6.y3
            have f3 := c6.free 3
            have C6 := Lib.hid (c6.set3 false)
            clear h6 g6 c6 C5
            go_upto_region 18 with (fail)
            revert C6
            clear y3 f3
            generalize w6.setCell ⟨w1.heap.size, 3, none⟩ (.bool false) = w7
            intro C7
            have y3 := C7.out.y3
            go_wp2_with fail
            refine (took_any ⟨#[43]⟩ (w.heap.size + 2) w.heap.size (i2 + 1) s _ C7.out.at_ (by omega) hs).mono ?_
            rintro e w8 ⟨rfl, h8, g8⟩
            have c8 : CS w w1.heap.size (tookI s (i2 + 1) [43]) s (sixP b0 wh re false ⟨#[]⟩ i2) w8 := C7.out.turned h8 g8
            have C8 := Lib.hid c8
            clear h8 g8 c8 C7 y3
            obtain ⟨k, hk⟩ : ∃ k, k = tookI s (i2 + 1) [43] := ⟨_, rfl⟩
            rw [← hk] at C8 HX hl2
            clear hk
            have TK : Hid (∃ q, q = signAt s (i2 + 1) (⟨#[43]⟩ : ByteArray).data.toList) := Lib.hid ⟨_, rfl⟩
            obtain ⟨q, hq⟩ := TK.out
            rw [← hq]
            clear hq TK
            by_cases hr : runAt s k = 0
            · have HR := Lib.hid (show cutP s = ⟨b0, wh, re, false, ⟨#[]⟩, i2⟩ by rw [HD2.out]; unfold cutTail; rw [HZ.out, if_pos rfl, HX.out, if_pos hr, HY.out])
              have HF := Lib.hid hr
              clear hr
              go_wp2_with fail
              refine (figures_none C8.out.at_ (by omega) hs HF.out).mono ?_
              rintro e w9 ⟨rfl, h9, g9⟩
              have c9 := C8.out.turned h9 g9
              have y4 := c9.y4
              have f4 := c9.free 4
              have C9 := Lib.hid (c9.set4 ⟨#[]⟩)
              clear h9 g9 c9
              go_upto_region 21 with (fail)
              revert C9
              clear y4 f4
              generalize w9.setCell ⟨w1.heap.size, 4, none⟩ (.string ⟨#[]⟩) = wa
              intro C5
              obtain ⟨r0, r1, r2, r3, r4, r5⟩ := C5.out.rs
              obtain ⟨q0, q1, q2, q3, q4, q5⟩ := C5.out.rf
              have y0 := C5.out.y0
              have y1 := C5.out.y1
              have y2 := C5.out.y2
              have y3 := C5.out.y3
              have y4 := C5.out.y4
              have y5 := C5.out.y5
              go_wp2
              exact HR.out.symm ▸ cs_exit C5.out ⟨b0, wh, re, false, ⟨#[]⟩, i2⟩ _ rfl rfl
            · obtain ⟨j, hj⟩ : ∃ j, j = k + runAt s k := ⟨_, rfl⟩
              obtain ⟨X, hX⟩ : ∃ X, X = s.extract k j := ⟨_, rfl⟩
              have HR := Lib.hid (show cutP s = ⟨b0, wh, re, false, X, j⟩ by rw [HD2.out]; unfold cutTail; rw [HZ.out, if_pos rfl, HX.out, if_neg hr, HY.out, ← hj, ← hX])
              have hle := runAt_le s k (by omega)
              have he2 : X.toList.isEmpty = false := by rw [hX, hj]; exact nonempty_cut s k _ hle hr
              have hj2 : j ≤ s.size := by omega
              have HJ := Lib.hid hj
              have HXX := Lib.hid hX
              clear hr hj hX hle
              go_wp2_with fail
              refine (figures_some X C8.out.at_ (by omega) hs HJ.out HXX.out).mono ?_
              rintro e w9 ⟨rfl, h9, g9⟩
              have c9 := C8.out.turned h9 g9
              have y4 := c9.y4
              have f4 := c9.free 4
              have C9 := Lib.hid (c9.set4 X)
              clear h9 g9 c9
              go_upto_region 21 with (fail)
              revert C9
              clear y4 f4
              generalize w9.setCell ⟨w1.heap.size, 4, none⟩ (.string X) = wa
              intro C9
              have y4 := C9.out.y4
              have y5 := C9.out.y5
              have yh := C9.out.here'
              have f5 := C9.out.free 5
              have CA := Lib.hid (C9.out.set5 j)
              go_upto_region 23 with (fail)
              revert CA
              clear y4 y5 yh f5 C9
              generalize wa.setCell ⟨w1.heap.size, 5, none⟩ (.int .i64 j) = wb
              intro C5
              obtain ⟨r0, r1, r2, r3, r4, r5⟩ := C5.out.rs
              obtain ⟨q0, q1, q2, q3, q4, q5⟩ := C5.out.rf
              have y0 := C5.out.y0
              have y1 := C5.out.y1
              have y2 := C5.out.y2
              have y3 := C5.out.y3
              have y4 := C5.out.y4
              have y5 := C5.out.y5
              go_wp2
              exact HR.out.symm ▸ cs_exit C5.out ⟨b0, wh, re, false, X, j⟩ _ rfl rfl
          · have HY := Lib.hid hy
            have HX := Lib.hid (show expI s i2 = i2 + 2 from if_pos hy)
            have hl2 := signAt_lt hy
            clear hy hz
            go_wp2_with fail
            refine (took_yes ⟨#[45]⟩ C5.out.at_ hs HY.out).mono ?_
            rintro e w6 ⟨rfl, h6, g6⟩
            have c6 := C5.out.turned h6 g6
            have y3 := c6.y3
            have f3 := c6.free 3
            have C6 := Lib.hid (c6.set3 true)
            clear h6 g6 c6 C5
            go_upto_region 18 with (fail)
            revert C6
            clear y3 f3
            generalize w6.setCell ⟨w1.heap.size, 3, none⟩ (.bool true) = w7
            intro C7
            have y3 := C7.out.y3
            have C8 : Hid (CS w w1.heap.size (i2 + 1 + 1) s (sixP b0 wh re true ⟨#[]⟩ i2) w7) := C7
            clear C7
            obtain ⟨k, hk⟩ : ∃ k, k = i2 + 2 := ⟨_, rfl⟩
            rw [← hk] at HX
            rw [show i2 + 1 + 1 = k by omega] at C8
            by_cases hr : runAt s k = 0
            · have HR := Lib.hid (show cutP s = ⟨b0, wh, re, true, ⟨#[]⟩, i2⟩ by rw [HD2.out]; unfold cutTail; rw [HZ.out, if_pos rfl, HX.out, if_pos hr, HY.out])
              have HF := Lib.hid hr
              clear hr
              go_wp2_with fail
              refine (figures_none C8.out.at_ (by omega) hs HF.out).mono ?_
              rintro e w9 ⟨rfl, h9, g9⟩
              have c9 := C8.out.turned h9 g9
              have y4 := c9.y4
              have f4 := c9.free 4
              have C9 := Lib.hid (c9.set4 ⟨#[]⟩)
              clear h9 g9 c9 y3
              go_upto_region 21 with (fail)
              revert C9
              clear y4 f4
              generalize w9.setCell ⟨w1.heap.size, 4, none⟩ (.string ⟨#[]⟩) = wa
              intro C5
              obtain ⟨r0, r1, r2, r3, r4, r5⟩ := C5.out.rs
              obtain ⟨q0, q1, q2, q3, q4, q5⟩ := C5.out.rf
              have y0 := C5.out.y0
              have y1 := C5.out.y1
              have y2 := C5.out.y2
              have y3 := C5.out.y3
              have y4 := C5.out.y4
              have y5 := C5.out.y5
              go_wp2
              exact HR.out.symm ▸ cs_exit C5.out ⟨b0, wh, re, true, ⟨#[]⟩, i2⟩ _ rfl rfl
            · obtain ⟨j, hj⟩ : ∃ j, j = k + runAt s k := ⟨_, rfl⟩
              obtain ⟨X, hX⟩ : ∃ X, X = s.extract k j := ⟨_, rfl⟩
              have HR := Lib.hid (show cutP s = ⟨b0, wh, re, true, X, j⟩ by rw [HD2.out]; unfold cutTail; rw [HZ.out, if_pos rfl, HX.out, if_neg hr, HY.out, ← hj, ← hX])
              have hle := runAt_le s k (by omega)
              have he2 : X.toList.isEmpty = false := by rw [hX, hj]; exact nonempty_cut s k _ hle hr
              have hj2 : j ≤ s.size := by omega
              have HJ := Lib.hid hj
              have HXX := Lib.hid hX
              clear hr hj hX hle
              go_wp2_with fail
              refine (figures_some X C8.out.at_ (by omega) hs HJ.out HXX.out).mono ?_
              rintro e w9 ⟨rfl, h9, g9⟩
              have c9 := C8.out.turned h9 g9
              have y4 := c9.y4
              have f4 := c9.free 4
              have C9 := Lib.hid (c9.set4 X)
              clear h9 g9 c9 y3
              go_upto_region 21 with (fail)
              revert C9
              clear y4 f4
              generalize w9.setCell ⟨w1.heap.size, 4, none⟩ (.string X) = wa
              intro C9
              have y4 := C9.out.y4
              have y5 := C9.out.y5
              have yh := C9.out.here'
              have f5 := C9.out.free 5
              have CA := Lib.hid (C9.out.set5 j)
              go_upto_region 23 with (fail)
              revert CA
              clear y4 y5 yh f5 C9
              generalize wa.setCell ⟨w1.heap.size, 5, none⟩ (.int .i64 j) = wb
              intro C5
              obtain ⟨r0, r1, r2, r3, r4, r5⟩ := C5.out.rs
              obtain ⟨q0, q1, q2, q3, q4, q5⟩ := C5.out.rf
              have y0 := C5.out.y0
              have y1 := C5.out.y1
              have y2 := C5.out.y2
              have y3 := C5.out.y3
              have y4 := C5.out.y4
              have y5 := C5.out.y5
              go_wp2
              exact HR.out.symm ▸ cs_exit C5.out ⟨b0, wh, re, true, X, j⟩ _ rfl rfl
end Go.Proofs.YtoeddhkbifeamaaDoor
