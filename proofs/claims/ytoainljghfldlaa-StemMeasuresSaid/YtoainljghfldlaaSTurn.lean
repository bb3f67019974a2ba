/- stem's turned: the longest end of a word. -/
import Derived.Test.YtoainljghfldlaaSAsk
import Derived.Laws.EntriesVeiled
namespace Go.Proofs.Ytoainljghfldlaa
open Go.RowKit
set_option linter.unusedVariables false
set_option linter.unusedSimpArgs false

open Go.Shelf
attribute [local go_sem] Oper.semAt_some
/-- An end in a block of its own. -/
structure BkE (W : World) (B : Nat) (a b c : Value) : Prop where
  hp : W.heap[B]? = some (.cells #[a, b, c] 35 (0, 0))
theorem BkE.c0 {W : World} {B : Nat} {a b c : Value} (h : BkE W B a b c) : W.cell? ⟨B, 0, none⟩ = some a := by simp [World.cell?, h.hp]
theorem BkE.c1 {W : World} {B : Nat} {a b c : Value} (h : BkE W B a b c) : W.cell? ⟨B, 1, none⟩ = some b := by simp [World.cell?, h.hp]
theorem BkE.c2 {W : World} {B : Nat} {a b c : Value} (h : BkE W B a b c) : W.cell? ⟨B, 2, none⟩ = some c := by simp [World.cell?, h.hp]
theorem BkE.fz {W : World} {B : Nat} {a b c : Value} (h : BkE W B a b c) (j : Nat) : W.frozen? ⟨B, j, none⟩ = false := by simp [World.frozen?, h.hp]
theorem BkE.lt {W : World} {B : Nat} {a b c : Value} (h : BkE W B a b c) : B < W.heap.size := (Array.getElem?_eq_some_iff.1 h.hp).1
theorem BkE.below {W W' : World} {B : Nat} {a b c : Value} (h : BkE W B a b c) (hb : Below W.heap.size W W') : BkE W' B a b c := ⟨(hb.block B h.lt).trans h.hp⟩
theorem BkE.set0 {W : World} {B : Nat} {a b c : Value} (h : BkE W B a b c) (v : Value) : BkE (W.setCell ⟨B, 0, none⟩ v) B v b c := ⟨by simp [World.setCell, Array.getElem?_modify, h.hp]⟩
theorem BkE.set1 {W : World} {B : Nat} {a b c : Value} (h : BkE W B a b c) (v : Value) : BkE (W.setCell ⟨B, 1, none⟩ v) B a v c := ⟨by simp [World.setCell, Array.getElem?_modify, h.hp]⟩
theorem BkE.set2 {W : World} {B : Nat} {a b c : Value} (h : BkE W B a b c) (v : Value) : BkE (W.setCell ⟨B, 2, none⟩ v) B a b v := ⟨by simp [World.setCell, Array.getElem?_modify, h.hp]⟩
theorem BkE.made (W : World) (a b c : Value) : BkE (W.alloc (.cells #[a, b, c] 35)) W.heap.size a b c := ⟨by unfold World.alloc; simp only []; first | exact Array.getElem?_push_size .. | simp⟩
/-- A row of ends in memory. -/
def RdE (W : World) (g b b' : Nat) (rs : List EndR) : Prop := ∀ k r, rs[k]? = some r → W.cell? ⟨g, k * 3, none⟩ = some (.string (mkB r.fr)) ∧ W.cell? ⟨g, k * 3 + 1, none⟩ = some (.string (mkB r.to)) ∧ W.cell? ⟨g, k * 3 + 2, none⟩ = some (r.ask.val b b')
theorem RdE.below {W W' : World} {g b b' : Nat} {rs : List EndR} (h : RdE W g b b' rs) (hb : Below W.heap.size W W') : RdE W' g b b' rs := fun k r hk => by
  obtain ⟨h0, h1, h2⟩ := h k r hk
  exact ⟨kp' hb (cell_lt' h0) h0, kp' hb (cell_lt' h1) h1, kp' hb (cell_lt' h2) h2⟩
def frV : Option EndR → List UInt8
  | some r => r.fr
  | none => []
def toV : Option EndR → List UInt8
  | some r => r.to
  | none => []
def asV (b b' : Nat) : Option EndR → Value
  | some r => r.ask.val b b'
  | none => .nilFunc
theorem lenO_fr (o : Option EndR) : lenO o = (frV o).length := by cases o <;> rfl
theorem getE {l : List EndR} {i : Nat} (h : i < l.length) : ∃ x, l[i]? = some x := ⟨l[i], List.getElem?_eq_getElem h⟩
theorem pick_take {t : List UInt8} {rs : List EndR} {k : Nat} {x : EndR} (hx : rs[k]? = some x) : pickL t (rs.take (k + 1)) = pickS t (pickL t (rs.take k)) x := by
  rw [List.take_add_one, hx]
  exact pick_snoc t (rs.take k) x
theorem pickS_yes {t : List UInt8} {o : Option EndR} {x : EndR} (h : (frV o).length < x.fr.length) (hs : sufB t x.fr = true) : pickS t o x = some x := by
  unfold pickS
  rw [lenO_fr, decide_eq_true h, hs]
  rfl
theorem pickS_no1 {t : List UInt8} {o : Option EndR} {x : EndR} (h : ¬ (frV o).length < x.fr.length) : pickS t o x = o := by
  unfold pickS
  rw [lenO_fr, decide_eq_false h]
  rfl
theorem pickS_no2 {t : List UInt8} {o : Option EndR} {x : EndR} (h : (frV o).length < x.fr.length) (hs : sufB t x.fr = false) : pickS t o x = o := by
  unfold pickS
  rw [lenO_fr, decide_eq_true h, hs]
  rfl
theorem turnO_no {t : List UInt8} {r : EndR} (h : r.ask.sem (trimL t r.fr) = false) : turnO t (some r) = (t, false) := by simp [turnO, h]
theorem turnO_yes {t : List UInt8} {r : EndR} (h : r.ask.sem (trimL t r.fr) = true) : turnO t (some r) = (trimL t r.fr ++ r.to, true) := by simp [turnO, h]
theorem val_func (b b' : Nat) (a : Ask) : ∃ fn ps, a.val b b' = .func (.func fn) #[] ps := by cases a <;> exact ⟨_, _, rfl⟩
def SmallR (rs : List EndR) : Bool := rs.all fun r => decide (r.fr.length ≤ 100) && decide (r.to.length ≤ 100)
set_option maxRecDepth 100000 in
set_option maxHeartbeats 16000000 in
theorem turned_any (t : List UInt8) (ht : t.length ≤ 1000000) (rs : List EndR) (hrs : rs.length ≤ 100) (hsm : SmallR rs = true) (g b b' c : Nat) (w : World) (hR : RdE w g b b' rs) (hok : ∀ r ∈ rs, r.ask.ok w b b') :
    Calls Try.prog 25 #[.string (mkB t), .slice (some ⟨g, 0, none⟩) rs.length c] w fun e w' => e = .returned (.tuple #[.string (mkB (turnL t rs).1), .bool (turnL t rs).2]) ∧ Below w.heap.size w w' := by
  have HR := Lib.hid hR
  have HO := Lib.hid hok
  have HSm := Lib.hid hsm
  have HTr := Lib.hid fun e he W => trim_any t e (by omega) he W
  clear hR hok hsm
  obtain ⟨n, hn⟩ : ∃ n, n = rs.length := ⟨_, rfl⟩
  rw [← hn] at hrs ⊢
  have HN := Lib.hid hn
  clear hn
  go_enter Try.func25, Try.ntmps25
  go_wp2
  go_loopw [12] (fun i wr => (∃ k : Nat, k ≤ n ∧ i = .int .i64 k ∧ (BkE wr w.heap.size (.string (mkB (frV (pickL t (rs.take k))))) (.string (mkB (toV (pickL t (rs.take k))))) (asV b b' (pickL t (rs.take k))))) ∧ Below w.heap.size w wr) (fun i _ => n - (intOf i).toNat)
  case atStart => exact ⟨⟨0, by omega, rfl, BkE.made w _ _ _⟩, (Below.refl _ _).alloc (Nat.le_refl _) _⟩
  case round =>
    obtain ⟨⟨k, hk, rfl, hL⟩, hB⟩ := hrel
    have HB := Lib.hid hB
    clear hB
    by_cases hlt : k < n
    · obtain ⟨x, hx⟩ := getE (show k < rs.length by rw [← HN.out]; exact hlt)
      obtain ⟨e0, e1, e2⟩ := HR.out k x hx
      have hgl := cell_lt' e0
      have c0 := kp' HB.out hgl e0
      have c1 := kp' HB.out hgl e1
      have c2 := kp' HB.out hgl e2
      clear e0 e1 e2 hgl
      have HP := Lib.hid (pick_take (t := t) hx)
      have hsx := List.all_eq_true.1 HSm.out x (List.mem_of_getElem? hx)
      simp only [Bool.and_eq_true, decide_eq_true_eq] at hsx
      have HS := Lib.hid fun W => hasSuf_any t x.fr (by omega) (by omega) W
      obtain ⟨o, ho⟩ : ∃ o, o = pickL t (rs.take k) := ⟨_, rfl⟩
      rw [← ho] at hL HP
      obtain ⟨xf, xt, xa⟩ := x
      dsimp only at c0 c1 c2 hsx HS
      have hz1 := mkB_size xf
      have hz2 := mkB_size (frV o)
      obtain ⟨fn, ps, hav⟩ := val_func b b' xa
      rw [hav] at c2
      have HAV := Lib.hid hav
      clear ho hx hav
      by_cases hlen : (frV o).length < xf.length
      · cases hs : sufB t xf
        · rw [hs] at HS
          have HPs := Lib.hid (HP.out.trans (pickS_no2 hlen hs))
          obtain ⟨bf, hbf⟩ : ∃ z, z = mkB xf := ⟨_, rfl⟩
          obtain ⟨bo, hbo⟩ : ∃ z, z = mkB (frV o) := ⟨_, rfl⟩
          have hLs := hL
          rw [← hbf] at c0 HS hz1
          rw [← hbo] at hLs hz2
          have hcl : (bo.size : Int) < (bf.size : Int) := by omega
          have d0 := hLs.c0
          have hz : w.heap.size < wr.heap.size := hL.lt
          have HL := Lib.hid hL
          clear hlen hs hbf hbo hz1 hz2 hL hLs
          go_wp2_with (go_at_call 28; refine (HS.out _).mono ?_; rintro _ _ ⟨rfl, rfl⟩)
          go_roundw
          case rel =>
            have hb2 : Below wr.heap.size wr (wr.alloc (.cells #[.string bf, .string (mkB xt), .func (.func fn) #[] ps] 35)) := (Below.refl _ _).alloc (Nat.le_refl _) _
            refine ⟨⟨k + 1, by omega, by go_num, ?_⟩, HB.out.trans (hb2.mono HB.out.size)⟩
            rw [HPs.out]
            exact HL.out.below hb2
          case measure => simp [intOf]; omega
        · rw [hs] at HS
          have HPs := Lib.hid (HP.out.trans (pickS_yes hlen hs))
          obtain ⟨bf, hbf⟩ : ∃ z, z = mkB xf := ⟨_, rfl⟩
          obtain ⟨bo, hbo⟩ : ∃ z, z = mkB (frV o) := ⟨_, rfl⟩
          have hLs := hL
          rw [← hbf] at c0 HS hz1
          rw [← hbo] at hLs hz2
          have hcl : (bo.size : Int) < (bf.size : Int) := by omega
          have d0 := hLs.c0
          have d1 := hL.c1
          have d2 := hL.c2
          have f0 := hL.fz 0
          have f1 := hL.fz 1
          have f2 := hL.fz 2
          have hz : w.heap.size < wr.heap.size := hL.lt
          have HL := Lib.hid hL
          have HBF := Lib.hid hbf
          clear hlen hs hbf hbo hz1 hz2 hL hLs
          go_wp2_with (go_at_call 28; refine (HS.out _).mono ?_; rintro _ _ ⟨rfl, rfl⟩)
          go_roundw
          case rel =>
            have hb3 := ((HB.out.setCell (p := ⟨w.heap.size, 0, none⟩) (by simp) (.string bf)).setCell (p := ⟨w.heap.size, 1, none⟩) (by simp) (.string (mkB xt))).setCell (p := ⟨w.heap.size, 2, none⟩) (by simp) (.func (.func fn) #[] ps)
            refine ⟨⟨k + 1, by omega, by go_num, ?_⟩, hb3.alloc hb3.size _⟩
            rw [HPs.out]
            have := (((HL.out).set0 (.string bf)).set1 (.string (mkB xt))).set2 (.func (.func fn) #[] ps)
            show BkE _ _ (.string (mkB xf)) (.string (mkB xt)) (xa.val b b')
            rw [HAV.out, ← HBF.out]
            exact this.below ((Below.refl _ _).alloc (Nat.le_refl _) _)
          case measure => simp [intOf]; omega
      · have HPs := Lib.hid (HP.out.trans (pickS_no1 hlen))
        obtain ⟨bf, hbf⟩ : ∃ z, z = mkB xf := ⟨_, rfl⟩
        obtain ⟨bo, hbo⟩ : ∃ z, z = mkB (frV o) := ⟨_, rfl⟩
        have hLs := hL
        rw [← hbf] at c0 HS hz1
        rw [← hbo] at hLs hz2
        have hcl : ¬ (bo.size : Int) < (bf.size : Int) := by omega
        have hcn : ¬ bo.size < bf.size := by omega
        have hcd : decide (bo.size < bf.size) = false := by simp; omega
        have d0 := hLs.c0
        have hz : w.heap.size < wr.heap.size := hL.lt
        have HL := Lib.hid hL
        clear hlen hbf hbo hz1 hz2 hL hLs HS
        go_wp2
        go_roundw
        case rel =>
          have hb2 : Below wr.heap.size wr (wr.alloc (.cells #[.string bf, .string (mkB xt), .func (.func fn) #[] ps] 35)) := (Below.refl _ _).alloc (Nat.le_refl _) _
          refine ⟨⟨k + 1, by omega, by go_num, ?_⟩, HB.out.trans (hb2.mono HB.out.size)⟩
          rw [HPs.out]
          exact HL.out.below hb2
        case measure => simp [intOf]; omega
    · have hk' : rs.take k = rs := List.take_of_length_le (by rw [← HN.out]; omega)
      rw [hk'] at hL
      have HKn := Lib.hid hlt
      clear hk' hlt
      have HE := Lib.hid (show turnL t rs = turnO t (pickL t rs) from rfl)
      have HPk := Lib.hid (pick_some t rs)
      obtain ⟨o, ho⟩ : ∃ o, o = pickL t rs := ⟨_, rfl⟩
      rw [← ho] at hL HE HPk
      clear ho
      have hlt : ¬ k < n := HKn.out
      have d0 := hL.c0
      have d1 := hL.c1
      have d2 := hL.c2
      have HL := Lib.hid hL
      clear hL
      cases o with
      | none =>
        have HT2 := Lib.hid (HTr.out [] (by simp))
        have d0' : wr.cell? ⟨w.heap.size, 0, none⟩ = some (.string ⟨#[]⟩) := d0
        clear d0 d1 d2
        go_wp2_with (go_at_call 34; refine (HT2.out _).mono ?_; rintro _ _ ⟨rfl, rfl⟩)
        go_ret2
        exact ⟨by rw [HE.out]; rfl, HB.out⟩
      | some r =>
        obtain ⟨q1, q2, q3⟩ := HPk.out r rfl
        have hsx := List.all_eq_true.1 HSm.out r q1
        simp only [Bool.and_eq_true, decide_eq_true_eq] at hsx
        have hok := HO.out r q1
        have hq : r.fr ≠ [] := fun e => by rw [e] at q3; simp at q3
        have HT2 := Lib.hid (HTr.out r.fr (by omega))
        have htl := trim_le t r.fr
        obtain ⟨xf, xt, xa⟩ := r
        dsimp only [frV, toV, asV] at d0 d1 d2 hok hq HT2 hsx htl
        have hzl : (mkB (trimL t xf)).size ≤ 1000000 := by rw [mkB_size]; omega
        have hzt : (mkB xt).size ≤ 100 := by rw [mkB_size]; omega
        have hbe : (mkB xf).toList.isEmpty = false := by
          rw [ByteArray.toList_eq]
          unfold mkB
          cases xf with
          | nil => exact absurd rfl hq
          | cons a l => rfl
        have hbn : ((mkB xf).toList == []) = false := by
          rw [ByteArray.toList_eq]
          unfold mkB
          cases xf with
          | nil => exact absurd rfl hq
          | cons a l => rfl
        have HAP := Lib.hid (mkB_app (trimL t xf) xt)
        have HTL := Lib.hid (show (trimL t xf).length ≤ 1000000 by omega)
        have hokr := Ask.ok_below hok HB.out
        clear hok hq q1 q2 q3 hsx htl
        cases hse : xa.sem (trimL t xf)
        · have HE2 := Lib.hid (show turnL t rs = (t, false) by rw [HE.out]; exact turnO_no hse)
          have HSe := Lib.hid hse
          clear hse
          cases xa with
          | always =>
            cases HSe.out
          | above m =>
            have HC := Lib.hid (above1_any (trimL t xf) HTL.out m b wr hokr.1)
            rw [show decide (m < measL (trimL t xf)) = false from HSe.out] at HC
            clear hokr
            dsimp only [Ask.val] at d2
            go_wp2_with (first
              | (go_at_call 34; refine (HT2.out _).mono ?_; rintro _ _ ⟨rfl, rfl⟩)
              | (go_at_call 35; refine HC.out.mono ?_; rintro _ w5 ⟨rfl, hb5⟩; have e1 := kp' hb5 HL.out.lt d1; have B5 := Lib.hid (HB.out.trans (hb5.mono HB.out.size)); clear hb5))
            go_ret2
            exact ⟨by rw [HE2.out]; rfl, B5.out⟩
          | voiced =>
            have HC := Lib.hid (hasVowel_any (trimL t xf) HTL.out wr)
            rw [show hasV (trimL t xf) = false from HSe.out] at HC
            clear hokr
            dsimp only [Ask.val] at d2
            go_wp2_with (first
              | (go_at_call 34; refine (HT2.out _).mono ?_; rintro _ _ ⟨rfl, rfl⟩)
              | (go_at_call 27; refine HC.out.mono ?_; rintro _ w5 ⟨rfl, hb5⟩; have e1 := kp' hb5 HL.out.lt d1; have B5 := Lib.hid (HB.out.trans (hb5.mono HB.out.size)); clear hb5))
            go_ret2
            exact ⟨by rw [HE2.out]; rfl, B5.out⟩
          | behind =>
            have HC := Lib.hid (behind_any (trimL t xf) HTL.out b b' wr hokr.1 hokr.2)
            rw [show Ask.behind.sem (trimL t xf) = false from HSe.out] at HC
            clear hokr
            dsimp only [Ask.val] at d2
            go_wp2_with (first
              | (go_at_call 34; refine (HT2.out _).mono ?_; rintro _ _ ⟨rfl, rfl⟩)
              | (go_at_call 30; refine HC.out.mono ?_; rintro _ w5 ⟨rfl, hb5⟩; have e1 := kp' hb5 HL.out.lt d1; have B5 := Lib.hid (HB.out.trans (hb5.mono HB.out.size)); clear hb5))
            go_ret2
            exact ⟨by rw [HE2.out]; rfl, B5.out⟩
          | cvc =>
            have HC := Lib.hid (cvcA_any (trimL t xf) HTL.out wr)
            rw [show Ask.cvc.sem (trimL t xf) = false from HSe.out] at HC
            clear hokr
            dsimp only [Ask.val] at d2
            go_wp2_with (first
              | (go_at_call 34; refine (HT2.out _).mono ?_; rintro _ _ ⟨rfl, rfl⟩)
              | (go_at_call 32; refine HC.out.mono ?_; rintro _ w5 ⟨rfl, hb5⟩; have e1 := kp' hb5 HL.out.lt d1; have B5 := Lib.hid (HB.out.trans (hb5.mono HB.out.size)); clear hb5))
            go_ret2
            exact ⟨by rw [HE2.out]; rfl, B5.out⟩
        · have HE2 := Lib.hid (show turnL t rs = (trimL t xf ++ xt, true) by rw [HE.out]; exact turnO_yes hse)
          have HSe := Lib.hid hse
          clear hse
          cases xa with
          | always =>
            have HC := Lib.hid (always_any (trimL t xf) wr)
            clear hokr
            dsimp only [Ask.val] at d2
            go_wp2_with (first
              | (go_at_call 34; refine (HT2.out _).mono ?_; rintro _ _ ⟨rfl, rfl⟩)
              | (go_at_call 24; refine HC.out.mono ?_; rintro _ _ ⟨rfl, rfl⟩; have B5 := HB))
            go_ret2
            exact ⟨by rw [HE2.out, ← HAP.out]; rfl, B5.out⟩
          | above m =>
            have HC := Lib.hid (above1_any (trimL t xf) HTL.out m b wr hokr.1)
            rw [show decide (m < measL (trimL t xf)) = true from HSe.out] at HC
            clear hokr
            dsimp only [Ask.val] at d2
            go_wp2_with (first
              | (go_at_call 34; refine (HT2.out _).mono ?_; rintro _ _ ⟨rfl, rfl⟩)
              | (go_at_call 35; refine HC.out.mono ?_; rintro _ w5 ⟨rfl, hb5⟩; have e1 := kp' hb5 HL.out.lt d1; have B5 := Lib.hid (HB.out.trans (hb5.mono HB.out.size)); clear hb5))
            go_ret2
            exact ⟨by rw [HE2.out, ← HAP.out]; rfl, B5.out⟩
          | voiced =>
            have HC := Lib.hid (hasVowel_any (trimL t xf) HTL.out wr)
            rw [show hasV (trimL t xf) = true from HSe.out] at HC
            clear hokr
            dsimp only [Ask.val] at d2
            go_wp2_with (first
              | (go_at_call 34; refine (HT2.out _).mono ?_; rintro _ _ ⟨rfl, rfl⟩)
              | (go_at_call 27; refine HC.out.mono ?_; rintro _ w5 ⟨rfl, hb5⟩; have e1 := kp' hb5 HL.out.lt d1; have B5 := Lib.hid (HB.out.trans (hb5.mono HB.out.size)); clear hb5))
            go_ret2
            exact ⟨by rw [HE2.out, ← HAP.out]; rfl, B5.out⟩
          | behind =>
            have HC := Lib.hid (behind_any (trimL t xf) HTL.out b b' wr hokr.1 hokr.2)
            rw [show Ask.behind.sem (trimL t xf) = true from HSe.out] at HC
            clear hokr
            dsimp only [Ask.val] at d2
            go_wp2_with (first
              | (go_at_call 34; refine (HT2.out _).mono ?_; rintro _ _ ⟨rfl, rfl⟩)
              | (go_at_call 30; refine HC.out.mono ?_; rintro _ w5 ⟨rfl, hb5⟩; have e1 := kp' hb5 HL.out.lt d1; have B5 := Lib.hid (HB.out.trans (hb5.mono HB.out.size)); clear hb5))
            go_ret2
            exact ⟨by rw [HE2.out, ← HAP.out]; rfl, B5.out⟩
          | cvc =>
            have HC := Lib.hid (cvcA_any (trimL t xf) HTL.out wr)
            rw [show Ask.cvc.sem (trimL t xf) = true from HSe.out] at HC
            clear hokr
            dsimp only [Ask.val] at d2
            go_wp2_with (first
              | (go_at_call 34; refine (HT2.out _).mono ?_; rintro _ _ ⟨rfl, rfl⟩)
              | (go_at_call 32; refine HC.out.mono ?_; rintro _ w5 ⟨rfl, hb5⟩; have e1 := kp' hb5 HL.out.lt d1; have B5 := Lib.hid (HB.out.trans (hb5.mono HB.out.size)); clear hb5))
            go_ret2
            exact ⟨by rw [HE2.out, ← HAP.out]; rfl, B5.out⟩
end Go.Proofs.Ytoainljghfldlaa
