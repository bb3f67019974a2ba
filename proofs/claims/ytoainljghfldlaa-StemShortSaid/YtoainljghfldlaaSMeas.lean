/- stem's Measure and hasVowel: for every text up to a million bytes. -/
import Derived.Test.YtoainljghfldlaaSVow
import Derived.RangeFuncNested
import Derived.RangeFuncBox
import Derived.Maps.OwnIn
namespace Go.Proofs.Ytoainljghfldlaa
open Go.RowKit
set_option linter.unusedVariables false
set_option linter.unusedSimpArgs false

open Go.Shelf
attribute [local go_sem] Oper.semAt_some
theorem Boxed.of_block {W W' : World} {B : Nat} {t : TypeId} {v : Value} (h : Boxed W B t v) (e : W'.heap[B]? = W.heap[B]?) : Boxed W' B t v := e.trans h
theorem Boxed.new2 (w : World) (o : Obj) (t : TypeId) (v : Value) : Boxed ((w.alloc o).alloc (.cells #[v] t)) (w.heap.size + 1) t v := by
  have h := Boxed.new (w.alloc o) t v
  rwa [World.size_alloc] at h
theorem keepsFrom_below {W W' : World} {B : Nat} (l : Below W.heap.size W W') : KeepsFrom B W W' := ⟨l.size, fun k o _ hk _ => (l.block k (Array.getElem?_eq_some_iff.1 hk).1).trans hk⟩
theorem keepsWalks_below {W W' : World} (l : Below W.heap.size W W') : KeepsWalks W W' := ⟨l.size, fun k o hk _ => (l.block k (Array.getElem?_eq_some_iff.1 hk).1).trans hk⟩
theorem msr_snoc (pre : List Bool) (x : Bool) : msr (pre ++ [x]) = mstep (msr pre) x := by unfold msr; rw [List.foldl_append]; rfl
theorem msr_le (vs : List Bool) : (msr vs).1 ≤ vs.length := by
  have : ∀ (vs : List Bool) (s : Nat × Bool), (vs.foldl mstep s).1 ≤ s.1 + vs.length := by
    intro vs
    induction vs with
    | nil => intro s; simp
    | cons v vs ih =>
      intro s
      have h1 := ih (mstep s v)
      have h2 : (mstep s v).1 ≤ s.1 + 1 := by unfold mstep; dsimp only; split <;> omega
      simp only [List.foldl_cons, List.length_cons]
      omega
  have := this vs (0, false)
  simpa [msr] using this
theorem vowF_len (l : List UInt8) (f p : Nat) (o : Bool) : (vowF l f p o).length ≤ f := by
  induction f generalizing p o with
  | zero => simp [vowF]
  | succ f ih =>
    unfold vowF
    split
    · simp only [List.length_cons]; have := ih (p + (dec l p).2) (!vwB (dec l p).1 o); omega
    · simp
theorem vow_len (l : List UInt8) : (vowL l).length ≤ l.length := vowF_len l _ _ _
theorem meas_le (l : List UInt8) : measL l ≤ l.length := Nat.le_trans (msr_le _) (vow_len l)
set_option maxRecDepth 100000 in
set_option maxHeartbeats 16000000 in
theorem measure_any (t : List UInt8) (ht : t.length ≤ 1000000) (w : World) : Calls Try.prog 6 #[.string (mkB t)] w fun e w' => e = .returned (.int .i64 (measL t : Nat)) ∧ Below w.heap.size w w' := by
  refine (callsIn_wide (n := 6)).1 ?_
  refine callsIn_of_wp_marks Try.func6 rfl trivial ?_ rfl
  simp only [Try.ntmps6, List.size_toArray, List.length_cons, List.length_nil, Nat.reduceAdd, Nat.reduceSub, Array.replicate_succ, Array.replicate_zero, List.push_toArray, List.append_toArray, List.nil_append, List.cons_append]
  gi_wp2_with (refine ⟨trivial, ?_⟩; gi_at_call 11; refine CallsIn.mono (callsIn_wide.2 (vowels_any _ _)) ?_; rintro _ _ ⟨rfl, rfl⟩)
  have bM := ((Boxed.new w 3 (.int .i64 0)).alloc (.cells #[.bool false] 4)).alloc (.cells #[.string (mkB t)] 9)
  have bA := (Boxed.new2 w (.cells #[.int .i64 0] 3) 4 (.bool false)).alloc (.cells #[.string (mkB t)] 9)
  have bT := Boxed.new2 (w.alloc (.cells #[.int .i64 0] 3)) (.cells #[.bool false] 4) 9 (.string (mkB t))
  have hB0 : Below w.heap.size w (((w.alloc (.cells #[.int .i64 0] 3)).alloc (.cells #[.bool false] 4)).alloc (.cells #[.string (mkB t)] 9)) := (((Below.refl _ _).alloc (Nat.le_refl _) _).alloc (by simp) _).alloc (by simp; omega) _
  have hsz : (((w.alloc (.cells #[.int .i64 0] 3)).alloc (.cells #[.bool false] 4)).alloc (.cells #[.string (mkB t)] 9)).heap.size = w.heap.size + 3 := by simp
  simp only [World.size_alloc] at bT
  obtain ⟨W0, hW0⟩ : ∃ W0, ((w.alloc (.cells #[.int .i64 0] 3)).alloc (.cells #[.bool false] 4)).alloc (.cells #[.string (mkB t)] 9) = W0 := ⟨_, rfl⟩
  rw [hW0] at bM bA bT hB0 hsz ⊢
  clear hW0
  refine wpIn_rangeFunc_ownH rfl (by omega) (gf := 15) (lb := #[.pointer (some ⟨w.heap.size + 1 + 1, 0, none⟩)]) rfl trivial (enters_of Try.func15 (by kernel_rfl) rfl)
    (vow_stops (6 - 1) (by omega) w (w.heap.size + 1 + 1) t ht W0 hB0 (by omega) bT.cell) (fun h k => KpS.t h k) (KpS.b (by omega)) (Below.refl _ _) (fun _ => rfl)
    (fun pre W => (Boxed W w.heap.size 3 (.int .i64 ((msr pre).1 : Nat)) ∧ Boxed W (w.heap.size + 1) 4 (.bool (msr pre).2)) ∧ Below w.heap.size w W)
    (fun cd pre W => False)
    (OwnFrom.and (OwnFrom.and (Own.from (boxed_own _ _ (fun pre => .int .i64 ((msr pre).1 : Nat))) _) (Own.from (boxed_own _ _ (fun pre => .bool (msr pre).2)) _)) (ownFrom_below (Nat.le_refl _) (by omega)))
    (fun cd s A B row hs hg hr => hs)
    ⟨⟨bM, bA⟩, hB0⟩
    (fun x a' W => a' = { tmps := #[.string (mkB t), undef, .int .i64 0, .pointer (some ⟨w.heap.size, 0, none⟩), .pointer (some ⟨w.heap.size + 1, 0, none⟩), .bool x, .string (mkB t), .func (.func 15) #[] #[.pointer (some ⟨w.heap.size + 1 + 1, 0, none⟩)], .bool x, undef, undef, undef, undef, undef, undef, undef, undef, undef], defers := [] })
    (fun x a' _ X Y row hs hg hr => hs)
    ?assign ?body ?done ?stop
  case assign =>
    rintro l pre x W K hI hK
    have HKK := Lib.hid hK
    have HI := Lib.hid hI
    clear hK hI
    gi_wp2
    exact HKK.out _ _ (KeepsFrom.refl _ _) ⟨Below.refl _ _, KeepsWalks.refl _⟩ HI.out rfl
  case body =>
    rintro l pre x a' W hl ⟨r, hr⟩ ⟨⟨bM1, bA1⟩, hB1⟩ rfl hlt
    have cM := bM1.cell
    have fM := bM1.frozen
    have cA := bA1.cell
    have fA := bA1.frozen
    have hle := msr_le pre
    have hsn := msr_snoc pre x
    have hsW := hB1.size
    obtain ⟨s, hs⟩ : ∃ s, s = msr pre := ⟨_, rfl⟩
    rw [← hs] at hsn hle bM1 bA1 cM cA
    obtain ⟨m, a⟩ := s
    dsimp only at hle bM1 bA1 cM cA
    unfold mstep at hsn
    dsimp only at hsn
    have HS := Lib.hid hsn
    clear hsn hs
    cases a
    · gi_wp2
      refine ⟨(KeepsOthers.setCell _ _ _).from _, ⟨(Below.refl w.heap.size W).setCell (p := ⟨w.heap.size + 1, 0, none⟩) (by simp) _, KeepsWalks.setCell _ _ _⟩, ?_⟩
      dsimp only
      rw [HS.out]
      exact ⟨⟨bM1.other (by omega) _, bA1.set _⟩, hB1.setCell (p := ⟨w.heap.size + 1, 0, none⟩) (by simp) _⟩
    · cases x
      · gi_wp2
        refine ⟨((KeepsOthers.setCell _ _ _).trans (KeepsOthers.setCell _ _ _)).from _, ⟨((Below.refl w.heap.size W).setCell (p := ⟨w.heap.size, 0, none⟩) (by simp) _).setCell (p := ⟨w.heap.size + 1, 0, none⟩) (by simp) _, (KeepsWalks.setCell _ _ _).trans (KeepsWalks.setCell _ _ _)⟩, ?_⟩
        dsimp only
        rw [HS.out]
        exact ⟨⟨(bM1.set _).other (by omega) _, (bA1.other (by omega) _).set _⟩, (hB1.setCell (p := ⟨w.heap.size, 0, none⟩) (by simp) _).setCell (p := ⟨w.heap.size + 1, 0, none⟩) (by simp) _⟩
      · gi_wp2
        refine ⟨(KeepsOthers.setCell _ _ _).from _, ⟨(Below.refl w.heap.size W).setCell (p := ⟨w.heap.size + 1, 0, none⟩) (by simp) _, KeepsWalks.setCell _ _ _⟩, ?_⟩
        dsimp only
        rw [HS.out]
        exact ⟨⟨bM1.other (by omega) _, bA1.set _⟩, hB1.setCell (p := ⟨w.heap.size + 1, 0, none⟩) (by simp) _⟩
  case done =>
    rintro D ys W hD rfl ⟨⟨bM1, bA1⟩, hB1⟩ hK
    have cM := bM1.cell
    gi_wp2
    refine ⟨by simp, .inl ⟨_, _, rfl, run_takeDeferred hK, ?_⟩⟩
    refine ⟨.int .i64 (measL t : Nat), ?_, rfl, hB1.trans (belowK_b (w := w) (Nat.le_refl _) _ D _ _ (by omega) hK rfl rfl)⟩
    simp [results, Try.f6, go_sem, measL]
  case stop =>
    rintro D cd pre W hD _ h
    exact h.elim
/-- hasVowel: it leaves at the first vowel. -/
theorem hasV_no {pre : List Bool} (h : pre.any id = false) : (pre ++ [false]).any id = false := by rw [List.any_append, h]; rfl
theorem hasV_yes {pre sf : List Bool} {t : List UInt8} (h : vowL t = (pre ++ [true]) ++ sf) : hasV t = true := by unfold hasV; rw [h]; simp
set_option maxRecDepth 100000 in
set_option maxHeartbeats 16000000 in
theorem hasVowel_any (t : List UInt8) (ht : t.length ≤ 1000000) (w : World) : Calls Try.prog 27 #[.string (mkB t)] w fun e w' => e = .returned (.bool (hasV t)) ∧ Below w.heap.size w w' := by
  refine (callsIn_wide (n := 6)).1 ?_
  refine callsIn_of_wp_marks Try.func27 rfl trivial ?_ rfl
  simp only [Try.ntmps27, List.size_toArray, List.length_cons, List.length_nil, Nat.reduceAdd, Nat.reduceSub, Array.replicate_succ, Array.replicate_zero, List.push_toArray, List.append_toArray, List.nil_append, List.cons_append]
  gi_wp2_with (refine ⟨trivial, ?_⟩; gi_at_call 11; refine CallsIn.mono (callsIn_wide.2 (vowels_any _ _)) ?_; rintro _ _ ⟨rfl, rfl⟩)
  have bR := (Boxed.new w 4 (.bool false)).alloc (.cells #[.string (mkB t)] 9)
  have bT := Boxed.new2 w (.cells #[.bool false] 4) 9 (.string (mkB t))
  have hB0 : Below w.heap.size w ((w.alloc (.cells #[.bool false] 4)).alloc (.cells #[.string (mkB t)] 9)) := ((Below.refl _ _).alloc (Nat.le_refl _) _).alloc (by simp) _
  have hsz : ((w.alloc (.cells #[.bool false] 4)).alloc (.cells #[.string (mkB t)] 9)).heap.size = w.heap.size + 2 := by simp
  obtain ⟨W0, hW0⟩ : ∃ W0, (w.alloc (.cells #[.bool false] 4)).alloc (.cells #[.string (mkB t)] 9) = W0 := ⟨_, rfl⟩
  rw [hW0] at bR bT hB0 hsz ⊢
  clear hW0
  refine wpIn_rangeFunc_ownH rfl (by omega) (gf := 15) (lb := #[.pointer (some ⟨w.heap.size + 1, 0, none⟩)]) rfl trivial (enters_of Try.func15 (by kernel_rfl) rfl)
    (vow_stops (6 - 1) (by omega) w (w.heap.size + 1) t ht W0 hB0 (by omega) bT.cell) (fun h k => KpS.t h k) (KpS.b (by omega)) (Below.refl _ _) (fun _ => rfl)
    (fun pre W => (pre.any id = false ∧ Boxed W w.heap.size 4 (.bool false)) ∧ Below w.heap.size w W)
    (fun cd pre W => (cd = .ret ∧ (∃ pre', pre = pre' ++ [true]) ∧ Boxed W w.heap.size 4 (.bool true)) ∧ Below w.heap.size w W)
    (OwnFrom.and (Own.from (fun s A B row hs hg hr => ⟨hs.1, boxed_own _ _ (fun (_ : Unit) => .bool false) () A B row hs.2 hg hr⟩) _) (ownFrom_below (Nat.le_refl _) (by omega)))
    (fun cd => OwnFrom.and (Own.from (fun s A B row hs hg hr => ⟨hs.1, hs.2.1, boxed_own _ _ (fun (_ : Unit) => .bool true) () A B row hs.2.2 hg hr⟩) _) (ownFrom_below (Nat.le_refl _) (by omega)))
    ⟨⟨rfl, bR⟩, hB0⟩
    (fun x a' W => a' = { tmps := #[.string (mkB t), undef, .pointer (some ⟨w.heap.size, 0, none⟩), .bool x, .string (mkB t), .func (.func 15) #[] #[.pointer (some ⟨w.heap.size + 1, 0, none⟩)], .bool x, undef], defers := [] })
    (fun x a' _ X Y row hs hg hr => hs)
    ?assign ?body ?done ?stop
  case assign =>
    rintro l pre x W K hI hK
    have HKK := Lib.hid hK
    have HI := Lib.hid hI
    clear hK hI
    gi_wp2
    exact HKK.out _ _ (KeepsFrom.refl _ _) ⟨Below.refl _ _, KeepsWalks.refl _⟩ HI.out rfl
  case body =>
    rintro l pre x a' W hl ⟨r, hr⟩ ⟨⟨hno, bR1⟩, hB1⟩ rfl hlt
    have cR := bR1.cell
    have fR := bR1.frozen
    have HN := Lib.hid hno
    have hsW := hB1.size
    clear hno
    cases x
    · gi_wp2
      exact ⟨KeepsFrom.refl _ _, ⟨Below.refl _ _, KeepsWalks.refl _⟩, ⟨hasV_no HN.out, bR1⟩, hB1⟩
    · gi_wp2
      exact ⟨(KeepsOthers.setCell _ _ _).from _, ⟨rfl, ⟨_, rfl⟩, bR1.set _⟩, hB1.setCell (p := ⟨w.heap.size, 0, none⟩) (by simp) _⟩
  case done =>
    rintro D ys W hD rfl ⟨⟨hno, bR1⟩, hB1⟩ hK
    have cR := bR1.cell
    have fR := bR1.frozen
    have HE := Lib.hid (show hasV t = false from hno)
    clear hno
    gi_wp2
    have hK' := (KeepsOthers.setCell W ⟨w.heap.size, 0, none⟩ (.bool false)).same D _ hK rfl
    refine ⟨by simp, .inl ⟨_, _, rfl, run_takeDeferred hK', ?_⟩⟩
    have hc5 := cell_kept (World.cell?_setCell_same' W ⟨w.heap.size, 0, none⟩ (.bool false) (by rw [cR]; rfl)) (grownBy_putObj' _ D (.deferred none)) (fun r e => by cases e; exact ⟨_, hK', rfl⟩)
    refine ⟨.bool false, ?_, by rw [HE.out], (hB1.setCell (p := ⟨w.heap.size, 0, none⟩) (by simp) _).trans (belowK_b (w := w) (Nat.le_refl _) _ D _ _ (by omega) hK' rfl rfl)⟩
    simp [results, Try.f27, go_sem, hc5]
  case stop =>
    rintro D cd pre W hD ⟨sf, hsf⟩ ⟨⟨rfl, ⟨pre', rfl⟩, bR1⟩, hB1⟩ hK
    have HE := Lib.hid (hasV_yes hsf)
    clear hsf
    gi_wp2
    refine ⟨by simp, .inl ⟨_, _, rfl, run_takeDeferred hK, ?_⟩⟩
    have hc5 := cell_kept bR1.cell (grownBy_putObj' _ D (.deferred none)) (fun r e => by cases e; exact ⟨_, hK, rfl⟩)
    refine ⟨.bool true, ?_, by rw [HE.out], hB1.trans (belowK_b (w := w) (Nat.le_refl _) W D _ _ (by omega) hK rfl rfl)⟩
    simp [results, Try.f27, go_sem, hc5]
end Go.Proofs.Ytoainljghfldlaa
