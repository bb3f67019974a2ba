/- told: a value of the document's as the program's. -/
import Derived.Test.YtpmhefdalhohdaaDoorVOuts
namespace Go.Proofs.YtpmhefdalhohdaaDoor
open Go.RowKit
set_option linter.unusedVariables false

/-- What told leaves: a value for the tree, in new memory. -/
def ToldP (t : VT) (w : World) (e : Ending) (w' : World) : Prop := ∃ v, e = .returned v ∧ HasJ w' (fun x => w.heap.size ≤ x ∧ x < w'.heap.size) t v ∧ Below w.heap.size w w'
def ToldS (t : VT) : Prop := ∀ (cs : Array Value) (w : World), InV w t cs → OkV t → Calls Tryd.prog 13 #[.agg cs] w (ToldP t w)
set_option maxHeartbeats 2000000 in
set_option maxRecDepth 100000 in
theorem told_list (b : Bool) (n : Int) (s : ByteArray) (m : Nat) (f : Nat → VT) (q : Nat) (g : Nat → ByteArray) (A : Option Addr) (c : Nat) (B : Option Addr) (d : Nat) (w : World) (hs : s.size ≤ 9223372036854775807) (hmc : m ≤ c) (hc : c ≤ 9223372036854775807) (hqd : q ≤ d) (hd : d ≤ 9223372036854775807) (h3 : m ≤ 300)
    (hit : ∀ i, i < m → ∃ ds, InV w (f i) ds ∧ ∀ j (h : j < ds.size), cellAt w A (6 * i + j) = some ds[j]) (hnm : ∀ i, i < q → cellAt w B i = some (.string (g i)) ∧ (g i).size ≤ 9223372036854775807) (hok : ∀ i, i < m → OkV (f i)) (ih : ∀ i, ToldS (f i)) :
    Calls Tryd.prog 13 #[.agg #[.int .i64 4, .bool b, .int .i64 n, .string s, .slice A m c, .slice B q d]] w (ToldP (.mk 4 b n s m f q g) w) := by
  go_enter Tryd.func13, Tryd.ntmps13
  go_wp2_with fail
  obtain ⟨W1, hW1⟩ : ∃ W1, W1 = w.alloc (.cells #[.int .i64 4, .bool b, .int .i64 n, .string s, .slice A m c, .slice B q d] 25) := ⟨_, rfl⟩
  have hz1 : W1.heap.size = w.heap.size + 1 := by rw [hW1]; simp
  have hst : Outs 1 20 W1.heap.size f g 0 (.slice (some ⟨W1.heap.size, 0, none⟩) 0 0) (W1.alloc (.cells #[] 20)) := Outs.start (Nat.le_refl _)
  have HST := Lib.hid hst
  rw [hz1, hW1] at hst
  simp only [← hW1] at hst
  have HW := Lib.hid hW1
  have HZ := Lib.hid hz1
  clear hz1
  rw [← hW1]
  clear hW1
  have HS0 := Lib.hid hst
  clear hst
  go_loopw [3, 4] (fun v i wr => ∃ j : Nat, j ≤ m ∧ i = .int .i64 j ∧ Outs 1 20 (w.heap.size + 1) f g j v wr ∧ Below W1.heap.size W1 wr) (fun _ i _ => m - (intOf i).toNat)
  case atStart => exact ⟨0, by omega, rfl, HS0.out, (Below.refl _ _).alloc (Nat.le_refl _) _⟩
  case round =>
    obtain ⟨j, hj, rfl, ho, hb⟩ := hrel
    obtain ⟨b0, _, _, _, b4, b5, lb, kc⟩ := boxed HW.out hb
    have HB := Lib.hid hb
    have HLB := Lib.hid lb
    have HO := Lib.hid ho
    clear hb lb ho
    by_cases hlt : j < m
    · obtain ⟨xb, o, kj, bj, nj, sj, Aj, mj, cj, Bj, qj, dj, rfl, hiv, g0, g1, g2, g3, g4, g5⟩ := item_at hit kc hlt
      have HI := Lib.hid hit
      have HN := Lib.hid hnm
      have HK := Lib.hid kc
      have HV := Lib.hid hiv
      clear hit hnm kc hiv
      go_wp2_with fail
      refine (ih j _ wr HV.out (hok j hlt)).mono ?_
      rintro e w2 ⟨u, rfl, hu, l2⟩
      obtain ⟨hlo, vs, ow, hvs⟩ := HO.out
      have HU := Lib.hid hu
      have HL2 := Lib.hid l2
      have HV2 := Lib.hid hvs
      have HLO := Lib.hid hlo
      have OW := Lib.hid ow
      have O2 := Lib.hid ((own_below ow l2).alloc (.cells #[u] 20))
      have NW := Lib.hid (show ∀ (i : Nat) (x : Value), [u][i]? = some x → (w2.alloc (.cells #[u] 20)).cell? ((⟨w2.heap.size, 0, none⟩ : Addr).add i) = some x from fun i x hx => by
        match i, hx with
        | 0, hx => simp at hx; subst hx; simp [Addr.add])
      have ONE := Lib.hid (show ∀ x ∈ [u], x.oneCell' = true from fun x hx => by rw [List.mem_singleton.1 hx]; exact HasJ.one HU.out)
      obtain ⟨i0, hi0, hz0, hz1, hz2⟩ := info_parts anyinfo
      have HJ := Lib.hid (And.intro hi0 (And.intro hz0 (And.intro hz1 hz2)))
      have BZ := Lib.hid (show w.heap.size + 1 ≤ (w2.alloc (.cells #[u] 20)).heap.size by simp only [World.size_alloc]; have := l2.size; omega)
      clear hu l2 hvs hlo ow hi0 hz0 hz1 hz2
      rcases HU.out.two with rfl | ⟨T, ux, rfl⟩
      all_goals
        go_wp2_with (at_builtin; refine wpList_append_own_at _ rfl (.tmp 36) (.tmp 43) 50 rfl (w.heap.size + 1) 20 i0 .nilIface 1 16 Tryd.underlying50 HJ.out.1 HJ.out.2.1 HJ.out.2.2.1 HJ.out.2.2.2 rfl (by decide) _ j vs rfl O2.out ⟨w2.heap.size, 0, none⟩ 1 1 _ rfl rfl NW.out ONE.out (by unfold maxLen; omega) (by omega) BZ.out ?_)
        intro v' w3 ho3 hg3 _ hn3
        have hx := Lib.hid (Outs.push (.inl ⟨rfl, rfl⟩) (HO.out.below HL2.out) (own_below OW.out HL2.out) ((Below.refl _ _).alloc (Nat.le_refl _) _) ho3 hg3 (by simpa using hn3) (HU.out.mono fun x hx => ⟨Nat.le_trans HLO.out hx.1, hx.2, fun e => by have := (OW.out.lt _ e).2; omega⟩))
        have hl3 := Lib.hid (Below.grown (HB.out.trans ((HL2.out.mono HB.out.size).trans ((Below.refl _ _).alloc (Nat.le_trans HB.out.size HL2.out.size) _))) hg3 (by have := BZ.out; rw [HZ.out]; exact this) (fun k hk => by rw [HZ.out]; exact (OW.out.lt k hk).1))
        clear ho3 hg3 hn3
        go_wp2_with fail
        go_roundw
        case rel => exact ⟨j + 1, by omega, by go_num, hx.out, hl3.out⟩
        case measure => simp [intOf]; omega
    · have HI := Lib.hid hit
      have HN := Lib.hid hnm
      have HK := Lib.hid kc
      clear hit hnm kc
      have hjm : j = m := by omega
      subst hjm
      go_wp2_with fail
      go_ret
      refine ⟨_, rfl, HasJ.mono (S := fun x => w.heap.size + 1 ≤ x ∧ x < _) (by have := HO.out; exact this.list b n s q) (fun x hx => ⟨by omega, hx.2⟩), HLB.out⟩
set_option maxHeartbeats 4000000 in
theorem two_new (w2 : World) (a u : Value) (T : TypeId) : ∀ (i : Nat) (x : Value), [a, u][i]? = some x → (w2.alloc (.cells #[a, u] T)).cell? ((⟨w2.heap.size, 0, none⟩ : Addr).add i) = some x := by
  intro i x hx
  match i, hx with
  | 0, hx => simp at hx; subst hx; simp [Addr.add]
  | 1, hx => simp at hx; subst hx; simp [Addr.add]
theorem two_one (g : ByteArray) (u : Value) (h : u.oneCell' = true) : ∀ x ∈ [Value.string g, u], x.oneCell' = true := fun x hx => by
  simp at hx
  rcases hx with rfl | rfl
  · rfl
  · exact h
set_option maxHeartbeats 4000000 in
set_option maxRecDepth 100000 in
theorem told_object (b : Bool) (n : Int) (s : ByteArray) (m : Nat) (f : Nat → VT) (g : Nat → ByteArray) (A : Option Addr) (c : Nat) (B : Option Addr) (d : Nat) (w : World) (hs : s.size ≤ 9223372036854775807) (hmc : m ≤ c) (hc : c ≤ 9223372036854775807) (hqd : m ≤ d) (hd : d ≤ 9223372036854775807) (h3 : m ≤ 300)
    (hit : ∀ i, i < m → ∃ ds, InV w (f i) ds ∧ ∀ j (h : j < ds.size), cellAt w A (6 * i + j) = some ds[j]) (hnm : ∀ i, i < m → cellAt w B i = some (.string (g i)) ∧ (g i).size ≤ 9223372036854775807) (hgs : ∀ i, i < m → (g i).size ≤ 300) (hok : ∀ i, i < m → OkV (f i)) (ih : ∀ i, ToldS (f i)) :
    Calls Tryd.prog 13 #[.agg #[.int .i64 5, .bool b, .int .i64 n, .string s, .slice A m c, .slice B m d]] w (ToldP (.mk 5 b n s m f m g) w) := by
  go_enter Tryd.func13, Tryd.ntmps13
  go_wp2_with fail
  obtain ⟨W1, hW1⟩ : ∃ W1, W1 = w.alloc (.cells #[.int .i64 5, .bool b, .int .i64 n, .string s, .slice A m c, .slice B m d] 25) := ⟨_, rfl⟩
  have hz1 : W1.heap.size = w.heap.size + 1 := by rw [hW1]; simp
  have hst : Outs 2 58 W1.heap.size f g 0 (.slice (some ⟨W1.heap.size, 0, none⟩) 0 0) (W1.alloc (.cells #[] 58)) := Outs.start (Nat.le_refl _)
  have HST := Lib.hid hst
  rw [hz1, hW1] at hst
  simp only [← hW1] at hst
  have HW := Lib.hid hW1
  have HZ := Lib.hid hz1
  clear hz1
  rw [← hW1]
  clear hW1
  have HS0 := Lib.hid hst
  clear hst
  go_loopw [5, 6] (fun v i wr => ∃ j : Nat, j ≤ m ∧ i = .int .i64 j ∧ Outs 2 58 (w.heap.size + 1) f g j v wr ∧ Below W1.heap.size W1 wr) (fun _ i _ => m - (intOf i).toNat)
  case atStart => exact ⟨0, by omega, rfl, HS0.out, (Below.refl _ _).alloc (Nat.le_refl _) _⟩
  case round =>
    obtain ⟨j, hj, rfl, ho, hb⟩ := hrel
    obtain ⟨b0, _, _, _, b4, b5, lb, kc⟩ := boxed HW.out hb
    have HB := Lib.hid hb
    have HLB := Lib.hid lb
    have HO := Lib.hid ho
    clear hb lb ho
    by_cases hlt : j < m
    · obtain ⟨xb, o, kj, bj, nj, sj, Aj, mj, cj, Bj, qj, dj, rfl, hiv, g0, g1, g2, g3, g4, g5⟩ := item_at hit (KeepC.refl w) hlt
      obtain ⟨yb, yo, rfl, gn, gz⟩ := name_at hnm (KeepC.refl w) hlt
      have KS := Lib.hid (show ∀ W : World, Below W1.heap.size W1 W → (W.cell? ⟨w.heap.size, 4, none⟩ = some (.slice (some ⟨xb, o, none⟩) m c) ∧ W.cell? ⟨w.heap.size, 5, none⟩ = some (.slice (some ⟨yb, yo, none⟩) m d)) ∧ W.cell? ⟨yb, yo + j, none⟩ = some (.string (g j)) ∧
          W.cell? ⟨xb, o + j * 6, none⟩ = some (.int .i64 kj) ∧ W.cell? ⟨xb, o + j * 6 + 1, none⟩ = some (.bool bj) ∧ W.cell? ⟨xb, o + j * 6 + 2, none⟩ = some (.int .i64 nj) ∧ W.cell? ⟨xb, o + j * 6 + 3, none⟩ = some (.string sj) ∧ W.cell? ⟨xb, o + j * 6 + 4, none⟩ = some (.slice Aj mj cj) ∧ W.cell? ⟨xb, o + j * 6 + 5, none⟩ = some (.slice Bj qj dj) from fun W hb => by
        obtain ⟨_, _, _, _, b4, b5, _, kc⟩ := boxed HW.out hb
        exact ⟨⟨b4, b5⟩, kc _ _ gn, kc _ _ g0, kc _ _ g1, kc _ _ g2, kc _ _ g3, kc _ _ g4, kc _ _ g5⟩)
      have HD := Lib.hid (HB.out.drew)
      have HV := Lib.hid (hiv.keep (boxed HW.out HB.out.drew).2.2.2.2.2.2.2)
      have HO2 := Lib.hid (HO.out.below (Below.refl _ _).drew)
      obtain ⟨hlo, vs, ow, _⟩ := HO2.out
      have OW := Lib.hid ow
      have HLO := Lib.hid hlo
      have HI := Lib.hid hit
      have HN := Lib.hid hnm
      have HK := Lib.hid kc
      obtain ⟨i0, hi0, hz0, hz1, hz2⟩ := info_parts meminfo
      have HJ := Lib.hid (And.intro hi0 (And.intro hz0 (And.intro hz1 hz2)))
      clear hit hnm kc hiv gn g0 g1 g2 g3 g4 g5 hi0 hz0 hz1 hz2 hlo ow
      by_cases hk0 : (f j).k = 0
      · have HK0 := Lib.hid hk0
        clear hk0
        go_wp2_with fail
        go_region_held_law (fun W => (W.cell? ⟨w.heap.size, 4, none⟩ = some (.slice (some ⟨xb, o, none⟩) m c) ∧ W.cell? ⟨w.heap.size, 5, none⟩ = some (.slice (some ⟨yb, yo, none⟩) m d)) ∧ W.cell? ⟨yb, yo + j, none⟩ = some (.string (g j)) ∧
            W.cell? ⟨xb, o + j * 6, none⟩ = some (.int .i64 kj) ∧ W.cell? ⟨xb, o + j * 6 + 1, none⟩ = some (.bool bj) ∧ W.cell? ⟨xb, o + j * 6 + 2, none⟩ = some (.int .i64 nj) ∧ W.cell? ⟨xb, o + j * 6 + 3, none⟩ = some (.string sj) ∧ W.cell? ⟨xb, o + j * 6 + 4, none⟩ = some (.slice Aj mj cj) ∧ W.cell? ⟨xb, o + j * 6 + 5, none⟩ = some (.slice Bj qj dj))
          (first | exact KS.out _ HD.out | exact KS.out _ B4.out | exact KS.out _ B3.out | exact KS.out _ B2.out)
          (first
            | (go_at_call 13; refine (ih j _ _ HV.out (hok j hlt)).mono ?_; rintro e w2 ⟨u, rfl, hu, l2⟩; obtain rfl := hu.nil_of HK0.out; have HU := Lib.hid hu; have HL2 := Lib.hid l2; have B2 := Lib.hid (HD.out.trans (l2.mono HD.out.size)); clear hu l2; have O2 := Lib.hid ((own_below OW.out HL2.out).alloc (.cells #[.string (g j), .nilIface] 58)); have B3 := Lib.hid (B2.out.alloc B2.out.size (.cells #[.string (g j), .nilIface] 58)); have NW := Lib.hid (two_new w2 (.string (g j)) .nilIface 58); have ONE := Lib.hid (two_one (g j) .nilIface HU.out.one); have BZ := Lib.hid (show w.heap.size + 1 ≤ (w2.alloc (.cells #[.string (g j), .nilIface] 58)).heap.size from Nat.le_trans HLO.out (Nat.le_trans HL2.out.size (by simp))))
            | (refine step_append_own rfl (.tmp 57) (.tmp 70) 56 rfl (w.heap.size + 1) 58 i0 (.agg #[.string ⟨#[]⟩, .nilIface]) 2 32 Tryd.underlying56 HJ.out.1 HJ.out.2.1 HJ.out.2.2.1 HJ.out.2.2.2 rfl (by decide) _ j vs rfl O2.out ⟨w2.heap.size, 0, none⟩ 1 1 [.string (g j), .nilIface] rfl rfl NW.out ONE.out (by unfold maxLen; omega) (by omega) BZ.out ?_; intro v' w3 ho3 hg3 hn3 _; have hN3 := Lib.hid hn3; clear hn3; have B4 := Lib.hid (Below.grown B3.out hg3.out (by have := BZ.out; rw [HZ.out]; exact this) (fun k hk => by rw [HZ.out]; exact (OW.out.lt k hk).1))))
        have hx := Lib.hid (Outs.push (.inr ⟨rfl, rfl⟩) (HO2.out.below HL2.out) (own_below OW.out HL2.out) ((Below.refl _ _).alloc (Nat.le_refl _) _) ho3.out hg3.out hN3.out (HU.out.mono fun x hx => ⟨Nat.le_trans HLO.out hx.1, hx.2, fun e => by have := (OW.out.lt _ e).2; omega⟩))
        go_wp2_with fail
        go_roundw
        case rel => exact ⟨j + 1, by omega, by go_num, hx.out, B4.out⟩
        case measure => simp [intOf]; omega
      · have HK0 := Lib.hid hk0
        clear hk0
        go_wp2_with fail
        go_region_held_law (fun W => (W.cell? ⟨w.heap.size, 4, none⟩ = some (.slice (some ⟨xb, o, none⟩) m c) ∧ W.cell? ⟨w.heap.size, 5, none⟩ = some (.slice (some ⟨yb, yo, none⟩) m d)) ∧ W.cell? ⟨yb, yo + j, none⟩ = some (.string (g j)) ∧
            W.cell? ⟨xb, o + j * 6, none⟩ = some (.int .i64 kj) ∧ W.cell? ⟨xb, o + j * 6 + 1, none⟩ = some (.bool bj) ∧ W.cell? ⟨xb, o + j * 6 + 2, none⟩ = some (.int .i64 nj) ∧ W.cell? ⟨xb, o + j * 6 + 3, none⟩ = some (.string sj) ∧ W.cell? ⟨xb, o + j * 6 + 4, none⟩ = some (.slice Aj mj cj) ∧ W.cell? ⟨xb, o + j * 6 + 5, none⟩ = some (.slice Bj qj dj))
          (first | exact KS.out _ HD.out | exact KS.out _ B4.out | exact KS.out _ B3.out | exact KS.out _ B2.out)
          (first
            | (go_at_call 13; refine (ih j _ _ HV.out (hok j hlt)).mono ?_; rintro e w2 ⟨u, rfl, hu, l2⟩; obtain ⟨T, ux, rfl⟩ := hu.iface_of HK0.out; have HU := Lib.hid hu; have HL2 := Lib.hid l2; have B2 := Lib.hid (HD.out.trans (l2.mono HD.out.size)); clear hu l2; have O2 := Lib.hid ((own_below OW.out HL2.out).alloc (.cells #[.string (g j), (.iface T ux)] 58)); have B3 := Lib.hid (B2.out.alloc B2.out.size (.cells #[.string (g j), (.iface T ux)] 58)); have NW := Lib.hid (two_new w2 (.string (g j)) (.iface T ux) 58); have ONE := Lib.hid (two_one (g j) (.iface T ux) HU.out.one); have BZ := Lib.hid (show w.heap.size + 1 ≤ (w2.alloc (.cells #[.string (g j), (.iface T ux)] 58)).heap.size from Nat.le_trans HLO.out (Nat.le_trans HL2.out.size (by simp))))
            | (refine step_append_own rfl (.tmp 57) (.tmp 70) 56 rfl (w.heap.size + 1) 58 i0 (.agg #[.string ⟨#[]⟩, .nilIface]) 2 32 Tryd.underlying56 HJ.out.1 HJ.out.2.1 HJ.out.2.2.1 HJ.out.2.2.2 rfl (by decide) _ j vs rfl O2.out ⟨w2.heap.size, 0, none⟩ 1 1 [.string (g j), (.iface T ux)] rfl rfl NW.out ONE.out (by unfold maxLen; omega) (by omega) BZ.out ?_; intro v' w3 ho3 hg3 hn3 _; have hN3 := Lib.hid hn3; clear hn3; have B4 := Lib.hid (Below.grown B3.out hg3.out (by have := BZ.out; rw [HZ.out]; exact this) (fun k hk => by rw [HZ.out]; exact (OW.out.lt k hk).1))))
        have hx := Lib.hid (Outs.push (.inr ⟨rfl, rfl⟩) (HO2.out.below HL2.out) (own_below OW.out HL2.out) ((Below.refl _ _).alloc (Nat.le_refl _) _) ho3.out hg3.out hN3.out (HU.out.mono fun x hx => ⟨Nat.le_trans HLO.out hx.1, hx.2, fun e => by have := (OW.out.lt _ e).2; omega⟩))
        go_wp2_with fail
        go_roundw
        case rel => exact ⟨j + 1, by omega, by go_num, hx.out, B4.out⟩
        case measure => simp [intOf]; omega
    · have HI := Lib.hid hit
      have HN := Lib.hid hnm
      have HK := Lib.hid kc
      clear hit hnm kc
      have hjm : j = m := by omega
      subst hjm
      go_wp2_with fail
      go_ret
      refine ⟨_, rfl, HasJ.mono (S := fun x => w.heap.size + 1 ≤ x ∧ x < _) (by have := HO.out; exact this.object (fun i hi => by have := hgs i hi; omega) b n s _) (fun x hx => ⟨by omega, hx.2⟩), HLB.out⟩
set_option maxHeartbeats 2000000 in
set_option maxRecDepth 100000 in
theorem told_mk (k : Int) (b : Bool) (n : Int) (s : ByteArray) (m : Nat) (f : Nat → VT) (q : Nat) (g : Nat → ByteArray) (ih : ∀ i, ToldS (f i)) : ToldS (.mk k b n s m f q g) := by
  intro cs w h ho
  obtain ⟨A, c, B, d, rfl, hk, hn, hs, hmc, hc, hqd, hd, hit, hnm⟩ := h
  obtain ⟨o1, o2, o3, o4⟩ := ho
  have HKK := Lib.hid hk
  have HNN := Lib.hid hn
  unfold In64 at hk hn
  unfold vCells
  by_cases h4 : k = 4
  · subst h4
    exact told_list b n s m f q g A c B d w hs hmc hc hqd hd o2 hit hnm (fun i hi => (o4 (.inl rfl) i hi).2) ih
  · by_cases h5 : k = 5
    · subst h5
      obtain rfl := o3 rfl
      exact told_object b n s q f g A c B d w hs hmc hc hqd hd o2 hit hnm (fun i hi => (o4 (.inr rfl) i hi).1 rfl) (fun i hi => (o4 (.inr rfl) i hi).2) ih
    · clear hit hnm ih o3 o4
      by_cases h0 : k = 0
      · subst h0
        go_enter Tryd.func13, Tryd.ntmps13
        go_wp2_with fail
        go_ret
        exact ⟨_, rfl, .inl ⟨rfl, rfl⟩, (Below.refl _ _).alloc (Nat.le_refl _) _⟩
      · by_cases h1 : k = 1
        · subst h1
          go_enter Tryd.func13, Tryd.ntmps13
          go_wp2_with fail
          go_ret
          exact ⟨_, rfl, .inr (.inl ⟨rfl, rfl⟩), (Below.refl _ _).alloc (Nat.le_refl _) _⟩
        · by_cases h2 : k = 2
          · subst h2
            go_enter Tryd.func13, Tryd.ntmps13
            go_wp2_with fail
            go_ret
            exact ⟨_, rfl, .inr (.inr (.inl ⟨rfl, rfl, HNN.out⟩)), (Below.refl _ _).alloc (Nat.le_refl _) _⟩
          · by_cases h3 : k = 3
            · subst h3
              go_enter Tryd.func13, Tryd.ntmps13
              go_wp2_with fail
              go_ret
              exact ⟨_, rfl, .inr (.inr (.inr (.inl ⟨rfl, rfl, by omega⟩))), (Below.refl _ _).alloc (Nat.le_refl _) _⟩
            · have e0 : (k == 0) = false := by simp; omega
              have e1 : (k == 1) = false := by simp; omega
              have e2 : (k == 2) = false := by simp; omega
              have e3 : (k == 3) = false := by simp; omega
              have e4 : (k == 4) = false := by simp; omega
              have e5 : (k == 5) = false := by simp; omega
              have HO := Lib.hid (show k < 0 ∨ 5 < k by omega)
              go_enter Tryd.func13, Tryd.ntmps13
              go_wp2_with fail
              go_ret
              exact ⟨_, rfl, .inr (.inr (.inr (.inr (.inr (.inr ⟨HO.out, rfl, HKK.out⟩))))), (Below.refl _ _).alloc (Nat.le_refl _) _⟩
theorem told_any : ∀ t : VT, ToldS t
  | .no => fun _ _ h => h.elim
  | .mk k b n s m f q g => told_mk k b n s m f q g fun i => told_any (f i)
end Go.Proofs.YtpmhefdalhohdaaDoor
