/- slices.AppendSeq, Collect over stem's vowels; slices.Equal of rows of bools; stem's endsSo. -/
import Derived.Test.YtoainljghfldlaaSMeas
import Derived.BigQuiet
import Derived.Deep.QuietTactic
namespace Go.Proofs.Ytoainljghfldlaa
open Go.RowKit
set_option linter.unusedVariables false
set_option linter.unusedSimpArgs false

open Go.Shelf
attribute [local go_sem] Oper.semAt_some
theorem infoBool : (Try.prog.info? 4).map (fun i => (i.zero, i.size, i.bytes)) = some (some (.bool false), 1, 1) := by kernel_rfl
theorem cells_new1 (W : World) (a : Value) (T : TypeId) : ∀ (j : Nat) (u : Value), [a][j]? = some u → (W.alloc (.cells #[a] T)).cell? ((⟨W.heap.size, 0, none⟩ : Addr).add j) = some u := by
  intro j u h
  rw [Addr.add_mid, Nat.zero_add]
  rcases j with _ | j
  · simp at h ⊢; exact h
  · simp at h
theorem below_drewN {B : Nat} {w W : World} (h : Below B w W) (k : Nat) : Below B w (W.drewN k) := h.trans ⟨rfl, rfl, rfl, Nat.le_refl _, fun _ _ => rfl⟩
def rowB (bs : List Bool) : List Value := bs.map .bool
set_option maxRecDepth 100000 in
set_option maxHeartbeats 16000000 in
theorem appendSeq_any (t : List UInt8) (ht : t.length ≤ 1000000) (Bs : Nat) (w : World) (hBs : w.cell? ⟨Bs, 0, none⟩ = some (.string (mkB t))) : Calls Try.prog 45 #[.slice none 0 0, .func (.func 15) #[] #[.pointer (some ⟨Bs, 0, none⟩)]] w fun e w' =>
    ∃ v, e = .returned v ∧ w'.ownsRow w.heap.size 4 1 v (vowL t).length (rowB (vowL t)) ∧ Below w.heap.size w w' := by
  refine (callsIn_wide (n := 6)).1 ?_
  refine callsIn_of_wp_marks Try.func45 rfl trivial ?_ rfl
  simp only [Try.ntmps45, List.size_toArray, List.length_cons, List.length_nil, Nat.reduceAdd, Nat.reduceSub, Array.replicate_succ, Array.replicate_zero, List.push_toArray, List.append_toArray, List.nil_append, List.cons_append]
  obtain ⟨i0, hi0, hz0, hz1, hz2⟩ := info_parts infoBool
  gi_wp2
  have bV := Boxed.new w 53 (.slice none 0 0)
  have hB0 : Below w.heap.size w (w.alloc (.cells #[.slice none 0 0] 53)) := (Below.refl _ _).alloc (Nat.le_refl _) _
  have hsz : (w.alloc (.cells #[.slice none 0 0] 53)).heap.size = w.heap.size + 1 := by simp
  have hBl := cell_lt' hBs
  have hBs0 := kp' hB0 hBl hBs
  obtain ⟨W0, hW0⟩ : ∃ W0, w.alloc (.cells #[.slice none 0 0] 53) = W0 := ⟨_, rfl⟩
  rw [hW0] at bV hB0 hsz hBs0 ⊢
  clear hW0
  have hO0 : W0.ownsRow w.heap.size 4 1 (.slice none 0 0) 0 [] := World.ownsRow_nil W0 _ _ 1
  refine wpIn_rangeFunc_ownH rfl (by omega) (gf := 15) (lb := #[.pointer (some ⟨Bs, 0, none⟩)]) rfl trivial (enters_of Try.func15 (by kernel_rfl) rfl)
    (vow_stops (6 - 1) (by omega) w Bs t ht W0 hB0 (by omega) hBs0) (fun h k => KpS.t h k) (KpS.b (by omega)) (Below.refl _ _) (fun _ => rfl)
    (fun pre W => (∃ v, Boxed W w.heap.size 53 v ∧ W.ownsRow w.heap.size 4 1 v pre.length (rowB pre) ∧ True) ∧ Below w.heap.size w W)
    (fun cd pre W => False)
    (OwnFrom.and (Own.from (holdsRow_own w.heap.size w.heap.size 53 4 1 (fun pre => pre.length) rowB (fun _ _ => True)) _) (ownFrom_below (Nat.le_refl _) (by omega)))
    (fun cd s A B row hs hg hr => hs)
    ⟨⟨_, bV, hO0, trivial⟩, hB0⟩
    (fun x a' W => a' = { tmps := #[.slice none 0 0, .func (.func 15) #[] #[.pointer (some ⟨Bs, 0, none⟩)], .pointer (some ⟨w.heap.size, 0, none⟩), undef, .slice none 0 0, .bool x, .func (.func 15) #[] #[.pointer (some ⟨Bs, 0, none⟩)], .bool x, undef, undef, undef, undef, undef], defers := [] })
    (fun x a' _ X Y row hs hg hr => hs)
    ?assign ?body ?done ?stop
  case assign =>
    rintro l pre x W K hI hK
    have HKK := Lib.hid hK
    have HI := Lib.hid hI
    clear hK hI
    gi_wp2
    exact HKK.out _ _ (KeepsFrom.refl _ _) ⟨Below.refl _ _, KeepsWalks.refl _⟩ HI.out rfl
  case body =>
    rintro l pre x a' W hl ⟨r, hr⟩ ⟨⟨v, bV1, hrow, -⟩, hB1⟩ rfl hlt
    have cV := bV1.cell
    have fV := bV1.frozen
    have hgsz : w.heap.size ≤ W.heap.size := hB1.size
    gi_wp2_with (gi_at_builtin; refine wpListIn_append_own _ rfl _ _ 53 rfl w.heap.size 4 i0 (.bool false) 1 1 Try.underlying53 hi0 hz0 hz1 hz2 rfl (by decide) _ _ _ rfl (hrow.alloc _) ⟨W.heap.size, 0, none⟩ 1 1 [.bool x] rfl rfl (cells_new1 W _ _) (by simp [Value.oneCell']) (by unfold maxLen; omega) (by omega) (by simp; omega) ?_; intro v2 w1 hown' hgrow _; obtain ⟨g, cap, rfl⟩ := ownsRow_succ hown'; obtain ⟨hv1', hv2', hr2', hk2', hb2'⟩ := bV1.appended (by decide) hrow hB1.size (Nat.le_refl _) hown' hgrow; have hc1' := hv1'.cell; have hf1' := hv1'.frozen)
    refine ⟨hk2'.from _, ⟨hb2', hk2'.walks⟩, ?_⟩
    refine ⟨⟨_, hv2', ?_, trivial⟩, hB1.trans hb2'⟩
    have e1 : (pre ++ [x]).length = pre.length + 1 := by simp
    have e2 : rowB (pre ++ [x]) = rowB pre ++ [.bool x] := by simp [rowB]
    rw [e1, e2]
    exact hr2'
  case done =>
    rintro D ys W hD rfl ⟨⟨v, bV1, hrow, -⟩, hB1⟩ hK
    have cV := bV1.cell
    have HR := Lib.hid hrow
    clear hrow
    gi_wp2
    refine ⟨by simp, .inl ⟨_, _, rfl, run_takeDeferred hK, ?_⟩⟩
    exact ⟨_, results_tmp rfl _ _ _, v, rfl, ownsRow_putObj HR.out _ hK rfl, hB1.trans (belowK_b (w := w) (Nat.le_refl _) W D _ _ (by omega) hK rfl rfl)⟩
  case stop =>
    rintro D cd pre W hD _ h
    exact h.elim
/-- A row of bools that can be read. -/
def RdB (W : World) (A : Option Addr) (bs : List Bool) : Prop := bs ≠ [] → ∃ g o, A = some ⟨g, o, none⟩ ∧ ∀ i x, bs[i]? = some x → W.cell? ⟨g, o + i, none⟩ = some (.bool x)
theorem RdB.below {W W' : World} {A : Option Addr} {bs : List Bool} (h : RdB W A bs) (hb : Below W.heap.size W W') : RdB W' A bs := fun hne => by
  obtain ⟨g, o, hA, hc⟩ := h hne
  exact ⟨g, o, hA, fun i x hi => kp' hb (cell_lt' (hc i x hi)) (hc i x hi)⟩
theorem RdB.drop {W : World} {g o : Nat} {bs : List Bool} (h : RdB W (some ⟨g, o, none⟩) bs) (k : Nat) : RdB W (some ⟨g, o + k, none⟩) (bs.drop k) := fun hne => by
  have hn : bs ≠ [] := fun e => hne (by rw [e]; simp)
  obtain ⟨g', o', hA, hc⟩ := h hn
  injection hA with hA
  injection hA with h1 h2
  subst h1 h2
  exact ⟨g, o + k, rfl, fun i x hi => by rw [Nat.add_assoc]; exact hc _ _ (by rw [List.getElem?_drop] at hi; exact hi)⟩
theorem collect_any (t : List UInt8) (ht : t.length ≤ 1000000) (Bs : Nat) (w : World) (hBs : w.cell? ⟨Bs, 0, none⟩ = some (.string (mkB t))) : Calls Try.prog 43 #[.func (.func 15) #[] #[.pointer (some ⟨Bs, 0, none⟩)]] w fun e w' =>
    ∃ A c, e = .returned (.slice A (vowL t).length c) ∧ (vowL t).length ≤ c ∧ c ≤ maxLen ∧ RdB w' A (vowL t) ∧ Below w.heap.size w w' := by
  have HC := Lib.hid (appendSeq_any t ht Bs w hBs)
  clear hBs
  go_enter Try.func43, Try.ntmps43
  go_wp2_with (go_at_call 45; refine HC.out.mono ?_; rintro e w1 ⟨v, rfl, hrow, hb⟩; have HR := Lib.hid hrow; have HB := Lib.hid hb; clear hrow hb)
  have hrow := HR.out
  have HR2 := HR.out
  rcases hrow.2 with ⟨hv, h0⟩ | ⟨g, cap, cur, hv, hg, hh, hcap, hcm, _⟩
  · subst hv
    have hn : vowL t = [] := List.eq_nil_of_length_eq_zero h0
    go_ret
    exact ⟨none, 0, by rw [h0]; rfl, by omega, by omega, fun h => absurd hn h, HB.out⟩
  · subst hv
    go_ret
    refine ⟨some ⟨g, 0, none⟩, cap, rfl, hcap, hcm, fun _ => ⟨g, 0, rfl, fun i x hi => ?_⟩, HB.out⟩
    · have hil := (List.getElem?_eq_some_iff.1 hi).1
      have := World.ownsRow.cellAt (w := w1) (base := w.heap.size) (e := 4) (size := 1) HR2 i (by omega)
      rw [Nat.zero_add, this]
      simp [rowB, hi]
theorem getq {l : List Bool} {i : Nat} (h : i < l.length) : ∃ x, l[i]? = some x := ⟨l[i], List.getElem?_eq_getElem h⟩
theorem take_ne {a b : List Bool} {k : Nat} {x y : Bool} (ha : a[k]? = some x) (hb : b[k]? = some y) (h : x ≠ y) : (a == b) = false := by
  rw [beq_eq_false_iff_ne]
  intro e
  rw [e, hb] at ha
  exact h (Option.some.inj ha).symm
theorem take_eq {a b : List Bool} {k : Nat} {x : Bool} (ha : a[k]? = some x) (hb : b[k]? = some x) (h : a.take k = b.take k) : a.take (k + 1) = b.take (k + 1) := by
  rw [List.take_add_one, List.take_add_one, ha, hb, h]
theorem take_all {a b : List Bool} {k : Nat} (ha : a.length ≤ k) (hb : b.length = a.length) (h : a.take k = b.take k) : (a == b) = true := by
  rw [List.take_of_length_le ha, List.take_of_length_le (by omega)] at h
  rw [h]
  simp
set_option maxRecDepth 100000 in
set_option maxHeartbeats 8000000 in
theorem equal_any (a b : List Bool) (A B : Option Addr) (ca cb : Nat) (ha : a.length ≤ 1000000) (hb : b.length ≤ 1000000) (w : World) (hA : RdB w A a) (hB : RdB w B b) :
    Calls Try.prog 44 #[.slice A a.length ca, .slice B b.length cb] w fun e w' => e = .returned (.bool (a == b)) ∧ Below w.heap.size w w' := by
  have HA := Lib.hid hA
  have HB := Lib.hid hB
  clear hA hB
  by_cases hl : a.length = b.length
  · have hl1 : ((a.length : Int) == (b.length : Int)) = true := by rw [hl]; simp
    have hl2 : ((a.length : Int) != (b.length : Int)) = false := by rw [hl]; simp
    have HL := Lib.hid hl
    clear hl
    go_enter Try.func44, Try.ntmps44
    go_wp2
    go_loopw [13] (fun i wr => (∃ k : Nat, k ≤ a.length ∧ i = .int .i64 k ∧ a.take k = b.take k) ∧ Below w.heap.size w wr) (fun i _ => a.length - (intOf i).toNat)
    case atStart => exact ⟨⟨0, by omega, rfl, rfl⟩, Below.refl _ _⟩
    case round =>
      obtain ⟨⟨k, hk, rfl, htk⟩, hbl⟩ := hrel
      have HBl := Lib.hid hbl
      have HT := Lib.hid htk
      clear hbl htk
      by_cases hlt : k < a.length
      · obtain ⟨x, hx⟩ := getq hlt
        obtain ⟨y, hy⟩ := getq (show k < b.length by rw [← HL.out]; exact hlt)
        obtain ⟨ga, oa, rfl, h1⟩ := (HA.out.below HBl.out) (fun e => by rw [e] at hlt; simp at hlt)
        obtain ⟨gb, ob, rfl, h2⟩ := (HB.out.below HBl.out) (fun e => by rw [e] at hy; simp at hy)
        have c1 := h1 k x hx
        have c2 := h2 k y hy
        have hkb : k < b.length := by rw [← HL.out]; exact hlt
        have HX := Lib.hid hx
        have HY := Lib.hid hy
        clear h1 h2 hx hy hl1 hl2
        cases x <;> cases y
        all_goals
          go_wp2
          go_quiet (fail)
          go_wp2
        · go_roundw
          case rel => exact ⟨⟨k + 1, by omega, by go_num, take_eq HX.out HY.out HT.out⟩, below_drewN HBl.out _⟩
          case measure => simp [intOf]; omega
        · go_ret
          exact ⟨by rw [take_ne HX.out HY.out (by decide)]; rfl, below_drewN HBl.out _⟩
        · go_ret
          exact ⟨by rw [take_ne HX.out HY.out (by decide)]; rfl, below_drewN HBl.out _⟩
        · go_roundw
          case rel => exact ⟨⟨k + 1, by omega, by go_num, take_eq HX.out HY.out HT.out⟩, below_drewN HBl.out _⟩
          case measure => simp [intOf]; omega
      · have HE := Lib.hid (show (a == b) = true from take_all (by omega) HL.out.symm HT.out)
        clear hl1 hl2
        go_wp2
        go_ret
        exact ⟨by rw [HE.out]; rfl, HBl.out⟩
  · have hl1 : ((a.length : Int) == (b.length : Int)) = false := by simp; omega
    have hl2 : ((a.length : Int) != (b.length : Int)) = true := by simp; omega
    have HE := Lib.hid (show (a == b) = false by rw [beq_eq_false_iff_ne]; intro e; exact hl (by rw [e]))
    go_enter Try.func44, Try.ntmps44
    go_wp2
    go_ret
    exact ⟨by rw [HE.out]; rfl, Below.refl _ _⟩
theorem RdB.dropO {W : World} {A : Option Addr} {bs : List Bool} (h : RdB W A bs) (k : Nat) : RdB W (A.map (fun x => x.add k)) (bs.drop k) := fun hne => by
  have hn : bs ≠ [] := fun e => hne (by rw [e]; simp)
  obtain ⟨g, o, rfl, hc⟩ := h hn
  exact ⟨g, o + k, by simp [Addr.add_mid], fun i x hi => by rw [Nat.add_assoc]; exact hc _ _ (by rw [List.getElem?_drop] at hi; exact hi)⟩
theorem equal_len (a b : List Bool) (la lb : Nat) (hla : la = a.length) (hlb : lb = b.length) (A B : Option Addr) (ca cb : Nat) (ha : la ≤ 1000000) (hb : lb ≤ 1000000) (w : World) (hA : RdB w A a) (hB : RdB w B b) :
    Calls Try.prog 44 #[.slice A la ca, .slice B lb cb] w fun e w' => e = .returned (.bool (a == b)) ∧ Below w.heap.size w w' := by
  subst hla hlb
  exact equal_any a b A B ca cb ha hb w hA hB
theorem endsSo_no {t : List UInt8} {are : List Bool} (h : ¬ are.length ≤ (vowL t).length) : endsSoL t are = false := by unfold endsSoL; rw [decide_eq_false h]; rfl
theorem endsSo_yes {t : List UInt8} {are : List Bool} (h : are.length ≤ (vowL t).length) : endsSoL t are = ((vowL t).drop ((vowL t).length - are.length) == are) := by unfold endsSoL; rw [decide_eq_true h]; rfl
set_option maxRecDepth 100000 in
set_option maxHeartbeats 8000000 in
theorem endsSo_any (t : List UInt8) (ht : t.length ≤ 1000000) (are : List Bool) (A : Option Addr) (c : Nat) (h0 : 0 < are.length) (h1 : are.length ≤ 10) (w : World) (hA : RdB w A are) :
    Calls Try.prog 40 #[.string (mkB t), .slice A are.length c] w fun e w' => e = .returned (.bool (endsSoL t are)) ∧ Below w.heap.size w w' := by
  have HA := Lib.hid hA
  have hvl := vow_len t
  clear hA
  obtain ⟨n, hn⟩ : ∃ n, n = (vowL t).length := ⟨_, rfl⟩
  obtain ⟨m, hm⟩ : ∃ m, m = are.length := ⟨_, rfl⟩
  rw [← hn] at hvl
  rw [← hm] at h0 h1 ⊢
  have HN := Lib.hid hn
  have HM := Lib.hid hm
  clear hn hm
  have HB1 := Lib.hid ((Below.refl w.heap.size w).alloc (Nat.le_refl _) (.cells #[.string (mkB t)] 9))
  have HC := Lib.hid (collect_any t ht w.heap.size (w.alloc (.cells #[.string (mkB t)] 9)) (by go_simp))
  rw [← HN.out] at HC
  by_cases hle : m ≤ n
  · have HE := Lib.hid (endsSo_yes (t := t) (are := are) (by rw [← HM.out, ← HN.out]; exact hle))
    rw [← HN.out, ← HM.out] at HE
    have hge : (0 : Int) ≤ (n : Int) - (m : Int) := by omega
    go_enter Try.func40, Try.ntmps40
    go_wp2_with (first
      | (go_at_call 11; refine (vowels_any _ _).mono ?_; rintro _ _ ⟨rfl, rfl⟩)
      | (go_at_call 43; refine HC.out.mono ?_; rintro _ w1 ⟨A1, c1, rfl, hc1, hc2, hr1, hb1⟩; have HR := Lib.hid hr1; have HB := Lib.hid hb1; clear hr1 hb1))
    have HR2 := Lib.hid (HR.out.dropO (n - m))
    have HA1 := Lib.hid ((HA.out.below HB1.out).below (HB.out.mono (by simp)))
    refine (equal_len ((vowL t).drop (n - m)) are _ _ (by rw [List.length_drop, ← HN.out]) HM.out _ _ _ _ (by omega) (by omega) w1 HR2.out HA1.out).mono ?_
    rintro e w2 ⟨rfl, hb2⟩
    have HB2 := Lib.hid hb2
    clear hb2
    go_wp2
    go_ret
    exact ⟨by rw [HE.out]; rfl, (HB1.out.trans (HB.out.mono (by simp))).trans (HB2.out.mono (Nat.le_trans HB1.out.size HB.out.size))⟩
  · have HE := Lib.hid (endsSo_no (t := t) (are := are) (by rw [← HM.out, ← HN.out]; exact hle))
    have hge : ¬ (0 : Int) ≤ (n : Int) - (m : Int) := by omega
    have hgd : decide ((0 : Int) ≤ (n : Int) - (m : Int)) = false := by simp; omega
    go_enter Try.func40, Try.ntmps40
    go_wp2_with (first
      | (go_at_call 11; refine (vowels_any _ _).mono ?_; rintro _ _ ⟨rfl, rfl⟩)
      | (go_at_call 43; refine HC.out.mono ?_; rintro _ w1 ⟨A1, c1, rfl, hc1, hc2, hr1, hb1⟩; have HR := Lib.hid hr1; have HB := Lib.hid hb1; clear hr1 hb1))
    go_ret
    exact ⟨by rw [HE.out]; rfl, HB1.out.trans (HB.out.mono (by simp))⟩
end Go.Proofs.Ytoainljghfldlaa
