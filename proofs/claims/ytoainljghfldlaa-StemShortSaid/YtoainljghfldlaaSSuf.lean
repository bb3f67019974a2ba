/- strings.HasSuffix, TrimSuffix; stem's endsInAny. -/
import Derived.Test.YtoainljghfldlaaSColl
import Derived.Test.YtoainljghfldlaaSFacts
namespace Go.Proofs.Ytoainljghfldlaa
open Go.RowKit
set_option linter.unusedVariables false
set_option linter.unusedSimpArgs false

open Go.Shelf
attribute [local go_sem] Oper.semAt_some
theorem suf_no {t e : List UInt8} (h : ¬ e.length ≤ t.length) : sufB t e = false := by unfold sufB; rw [decide_eq_false h]; rfl
theorem suf_yes {t e : List UInt8} (h : e.length ≤ t.length) : sufB t e = (t.drop (t.length - e.length) == e) := by unfold sufB; rw [decide_eq_true h]; rfl
theorem ext_drop (t : List UInt8) (k : Nat) : (mkB t).extract k t.length = mkB (t.drop k) := by
  apply ByteArray.ext
  simp [mkB, ByteArray.data_extract, List.extract_eq_take_drop]
  exact List.take_of_length_le (by simp)
theorem ext_take (t : List UInt8) (k : Nat) : (mkB t).extract 0 k = mkB (t.take k) := by
  apply ByteArray.ext
  simp [mkB, ByteArray.data_extract, List.extract_eq_take_drop]
theorem suf_bytes {t e : List UInt8} (h : e.length ≤ t.length) : (((mkB t).extract ((mkB t).size - (mkB e).size) (mkB t).size).toList == (mkB e).toList) = sufB t e := by
  rw [suf_yes h, ba_eq, mkB_size, mkB_size, ext_drop]
  by_cases hd : t.drop (t.length - e.length) = e
  · rw [hd]; simp
  · rw [decide_eq_false (fun h => hd (mkB_inj h))]
    simp [hd]
set_option maxHeartbeats 4000000 in
theorem hasSuf0_any (t e : List UInt8) (ht : t.length ≤ 1000001) (he : e.length ≤ 1000000) (w : World) :
    Calls Try.prog 36 #[.string (mkB t), .string (mkB e)] w fun en w' => en = .returned (.bool (sufB t e)) ∧ w' = w := by
  have h1 := mkB_size t
  have h2 := mkB_size e
  obtain ⟨bt, hbt⟩ : ∃ b, b = mkB t := ⟨_, rfl⟩
  obtain ⟨be, hbe⟩ : ∃ b, b = mkB e := ⟨_, rfl⟩
  rw [← hbt] at h1 ⊢
  rw [← hbe] at h2 ⊢
  have hb1 : bt.size ≤ 1000001 := by omega
  have hb2 : be.size ≤ 1000000 := by omega
  by_cases hl : e.length ≤ t.length
  · have HE := Lib.hid (suf_bytes hl)
    rw [← hbt, ← hbe] at HE
    have hs : be.size ≤ bt.size := by omega
    clear h1 h2 hl hbt hbe
    go_enter Try.func36, Try.ntmps36
    go_wp2
    go_ret
    exact ⟨by rw [← HE.out]; rfl, rfl⟩
  · have HE := Lib.hid (suf_no hl)
    have hs : ¬ be.size ≤ bt.size := by omega
    have hsd : decide (be.size ≤ bt.size) = false := by simp; omega
    clear h1 h2 hl hbt hbe
    go_enter Try.func36, Try.ntmps36
    go_wp2
    go_ret
    exact ⟨by rw [HE.out]; rfl, rfl⟩
theorem hasSuf_any (t e : List UInt8) (ht : t.length ≤ 1000001) (he : e.length ≤ 1000000) (w : World) :
    Calls Try.prog 28 #[.string (mkB t), .string (mkB e)] w fun en w' => en = .returned (.bool (sufB t e)) ∧ w' = w := by
  have HC := Lib.hid (hasSuf0_any t e ht he w)
  clear ht he
  go_enter Try.func28, Try.ntmps28
  go_wp2_with (go_at_call 36; refine HC.out.mono ?_; rintro _ _ ⟨rfl, rfl⟩)
  go_ret
  exact ⟨rfl, rfl⟩
theorem trim0_any (t e : List UInt8) (ht : t.length ≤ 1000001) (he : e.length ≤ 1000000) (w : World) :
    Calls Try.prog 41 #[.string (mkB t), .string (mkB e)] w fun en w' => en = .returned (.string (mkB (trimL t e))) ∧ w' = w := by
  have HC := Lib.hid (hasSuf0_any t e ht he w)
  have h1 := mkB_size t
  have h2 := mkB_size e
  cases hs : sufB t e
  · have HE := Lib.hid (show trimL t e = t by unfold trimL; rw [if_neg (by rw [hs]; decide)])
    rw [hs] at HC
    clear h1 h2 hs
    go_enter Try.func41, Try.ntmps41
    go_wp2_with (go_at_call 36; refine HC.out.mono ?_; rintro _ _ ⟨rfl, rfl⟩)
    go_ret
    exact ⟨by rw [HE.out]; rfl, rfl⟩
  · have hle := suf_len hs
    have HE := Lib.hid (show mkB (trimL t e) = (mkB t).extract 0 ((mkB t).size - (mkB e).size) by unfold trimL; rw [if_pos hs, mkB_size, mkB_size, ext_take])
    rw [hs] at HC
    obtain ⟨bt, hbt⟩ : ∃ b, b = mkB t := ⟨_, rfl⟩
    obtain ⟨be, hbe⟩ : ∃ b, b = mkB e := ⟨_, rfl⟩
    rw [← hbt] at h1 HC HE ⊢
    rw [← hbe] at h2 HC HE ⊢
    have hb1 : bt.size ≤ 1000001 := by omega
    have hb2 : be.size ≤ bt.size := by omega
    clear h1 h2 hs hbt hbe hle
    go_enter Try.func41, Try.ntmps41
    go_wp2_with (go_at_call 36; refine HC.out.mono ?_; rintro _ _ ⟨rfl, rfl⟩)
    go_ret
    exact ⟨by rw [HE.out]; rfl, rfl⟩
theorem trim_any (t e : List UInt8) (ht : t.length ≤ 1000001) (he : e.length ≤ 1000000) (w : World) :
    Calls Try.prog 34 #[.string (mkB t), .string (mkB e)] w fun en w' => en = .returned (.string (mkB (trimL t e))) ∧ w' = w := by
  have HC := Lib.hid (trim0_any t e ht he w)
  clear ht he
  go_enter Try.func34, Try.ntmps34
  go_wp2_with (go_at_call 41; refine HC.out.mono ?_; rintro _ _ ⟨rfl, rfl⟩)
  go_ret
  exact ⟨rfl, rfl⟩
/-- endsInAny's closure: does the word end so? -/
theorem anyIn_any (t e : List UInt8) (ht : t.length ≤ 1000001) (he : e.length ≤ 1000000) (b : Nat) (w : World) (hb : w.cell? ⟨b, 0, none⟩ = some (.string (mkB t))) :
    Calls Try.prog 39 #[.string (mkB e), .pointer (some ⟨b, 0, none⟩)] w fun en w' => en = .returned (.bool (sufB t e)) ∧ w' = w := by
  have HC := Lib.hid (hasSuf_any t e ht he w)
  clear ht he
  go_enter Try.func39, Try.ntmps39
  go_wp2_with (go_at_call 28; refine HC.out.mono ?_; rintro _ _ ⟨rfl, rfl⟩)
  go_ret
  exact ⟨rfl, rfl⟩
/-- A row of texts that can be read. -/
def RdS (W : World) (g : Nat) (es : List (List UInt8)) : Prop := ∀ i x, es[i]? = some x → W.cell? ⟨g, i, none⟩ = some (.string (mkB x))
theorem RdS.below {W W' : World} {g : Nat} {es : List (List UInt8)} (h : RdS W g es) (hb : Below W.heap.size W W') : RdS W' g es := fun i x hi => kp' hb (cell_lt' (h i x hi)) (h i x hi)
theorem getS {l : List (List UInt8)} {i : Nat} (h : i < l.length) : ∃ x, l[i]? = some x := ⟨l[i], List.getElem?_eq_getElem h⟩
theorem any_snoc {t : List UInt8} {es : List (List UInt8)} {k : Nat} {x : List UInt8} (hx : es[k]? = some x) (h : endsAny t (es.take k) = false) (hs : sufB t x = false) : endsAny t (es.take (k + 1)) = false := by
  unfold endsAny at h ⊢
  rw [List.take_add_one, hx, List.any_append, h]
  simp [hs]
theorem any_yes {t : List UInt8} {es : List (List UInt8)} {k : Nat} {x : List UInt8} (hx : es[k]? = some x) (hs : sufB t x = true) : endsAny t es = true := by
  unfold endsAny
  rw [List.any_eq_true]
  exact ⟨x, List.mem_of_getElem? hx, hs⟩
def IdxP (t : List UInt8) (es : List (List UInt8)) (en : Ending) : Prop := ∃ i : Int, en = .returned (.int .i64 i) ∧ (endsAny t es = true → 0 ≤ i) ∧ (endsAny t es = false → i = -1)
set_option maxRecDepth 100000 in
set_option maxHeartbeats 8000000 in
theorem indexFunc_any (t : List UInt8) (ht : t.length ≤ 1000001) (es : List (List UInt8)) (hes : es.length ≤ 1000) (hel : ∀ x ∈ es, x.length ≤ 1000000) (g b c : Nat) (w : World) (hg : RdS w g es) (hb : w.cell? ⟨b, 0, none⟩ = some (.string (mkB t))) :
    Calls Try.prog 42 #[.slice (some ⟨g, 0, none⟩) es.length c, .func (.func 39) #[] #[.pointer (some ⟨b, 0, none⟩)]] w fun en w' => IdxP t es en ∧ w' = w := by
  have HG := Lib.hid hg
  have HE := Lib.hid hel
  clear hg hel
  obtain ⟨n, hn⟩ : ∃ n, n = es.length := ⟨_, rfl⟩
  rw [← hn] at hes ⊢
  have HN := Lib.hid hn
  clear hn
  go_enter Try.func42, Try.ntmps42
  go_wp2
  go_loopw [8] (fun i wr => (∃ k : Nat, k ≤ n ∧ i = .int .i64 k ∧ endsAny t (es.take k) = false) ∧ wr = w) (fun i _ => n - (intOf i).toNat)
  case atStart => exact ⟨⟨0, by omega, rfl, by simp [endsAny]⟩, rfl⟩
  case round =>
    obtain ⟨⟨k, hk, rfl, hno⟩, rfl⟩ := hrel
    have HNo := Lib.hid hno
    clear hno
    by_cases hlt : k < n
    · obtain ⟨x, hx⟩ := getS (show k < es.length by rw [← HN.out]; exact hlt)
      have hc := HG.out k x hx
      have HC := Lib.hid (anyIn_any t x ht (HE.out x (List.mem_of_getElem? hx)) b _ hb)
      have HX := Lib.hid hx
      clear hx
      cases hs : sufB t x
      · rw [hs] at HC
        have HS := Lib.hid (any_snoc HX.out HNo.out hs)
        clear hs
        go_wp2_with (go_at_call 39; refine HC.out.mono ?_; rintro _ _ ⟨rfl, rfl⟩)
        go_roundw
        case rel => exact ⟨⟨k + 1, by omega, by go_num, HS.out⟩, trivial⟩
        case measure => simp [intOf]; omega
      · rw [hs] at HC
        have HS := Lib.hid (any_yes HX.out hs)
        clear hs
        go_wp2_with (go_at_call 39; refine HC.out.mono ?_; rintro _ _ ⟨rfl, rfl⟩)
        go_ret
        exact ⟨⟨(k : Int), rfl, fun _ => by omega, fun h => by rw [HS.out] at h; cases h⟩, rfl⟩
    · have HS := Lib.hid (show endsAny t es = false by have := HNo.out; rwa [List.take_of_length_le (by rw [← HN.out]; omega)] at this)
      go_wp2
      go_ret
      exact ⟨⟨-1, rfl, fun h => (by rw [HS.out] at h; cases h), fun _ => rfl⟩, rfl⟩
theorem containsFunc_any (t : List UInt8) (ht : t.length ≤ 1000001) (es : List (List UInt8)) (hes : es.length ≤ 1000) (hel : ∀ x ∈ es, x.length ≤ 1000000) (g b c : Nat) (w : World) (hg : RdS w g es) (hb : w.cell? ⟨b, 0, none⟩ = some (.string (mkB t))) :
    Calls Try.prog 38 #[.slice (some ⟨g, 0, none⟩) es.length c, .func (.func 39) #[] #[.pointer (some ⟨b, 0, none⟩)]] w fun en w' => en = .returned (.bool (endsAny t es)) ∧ w' = w := by
  have HC := Lib.hid (indexFunc_any t ht es hes hel g b c w hg hb)
  clear hg hb hel
  cases hs : endsAny t es
  · go_enter Try.func38, Try.ntmps38
    go_wp2_with (go_at_call 42; refine HC.out.mono ?_; rintro _ _ ⟨⟨i, rfl, h1, h2⟩, rfl⟩; have hi : i < 0 := (by have := h2 (by assumption); omega); clear h1 h2)
    go_ret
    exact ⟨ret_b (decide_eq_false (by omega)), rfl⟩
  · go_enter Try.func38, Try.ntmps38
    go_wp2_with (go_at_call 42; refine HC.out.mono ?_; rintro _ _ ⟨⟨i, rfl, h1, h2⟩, rfl⟩; have hi : 0 ≤ i := h1 (by assumption); clear h1 h2)
    go_ret
    exact ⟨rfl, rfl⟩
theorem endsAny_any (t : List UInt8) (ht : t.length ≤ 1000001) (es : List (List UInt8)) (hes : es.length ≤ 1000) (hel : ∀ x ∈ es, x.length ≤ 1000000) (g c : Nat) (w : World) (hg : RdS w g es) :
    Calls Try.prog 31 #[.string (mkB t), .slice (some ⟨g, 0, none⟩) es.length c] w fun en w' => en = .returned (.bool (endsAny t es)) ∧ Below w.heap.size w w' := by
  have HB := Lib.hid ((Below.refl w.heap.size w).alloc (Nat.le_refl _) (.cells #[.string (mkB t)] 9))
  have HC := Lib.hid (containsFunc_any t ht es hes hel g w.heap.size c (w.alloc (.cells #[.string (mkB t)] 9)) (hg.below HB.out) (by go_simp))
  clear hg hel
  go_enter Try.func31, Try.ntmps31
  go_wp2_with (go_at_call 38; refine HC.out.mono ?_; rintro _ _ ⟨rfl, rfl⟩)
  go_ret
  exact ⟨rfl, HB.out⟩
end Go.Proofs.Ytoainljghfldlaa
