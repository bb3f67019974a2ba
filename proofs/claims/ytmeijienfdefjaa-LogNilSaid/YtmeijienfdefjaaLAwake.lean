/- the law's full and awake of chapter 11. -/
import Derived.Test.YtmeijienfdefjaaLAwakeP
namespace Go.Proofs.Ytmeijienfdefjaa
open Go.RowKit
set_option linter.unusedVariables false
set_option linter.unusedSimpArgs false

theorem lfull_any (c n : Nat) (w : World) (hc : c < 256) (hn : n ≤ 1000000) :
    Calls Try.prog 25 #[.int .u8 c, .int .i64 n] w fun e w' =>
      e = .returned (.slice (some ⟨w.heap.size, 0, none⟩) n n) ∧ BRow w' w.heap.size n (fun _ => c) ∧ Below w.heap.size w w' := by
  have hmk := run_make_row' (P := Try.prog) 42 5 (.int .u8 0) 1 Try.underlying42 u8info rfl .i64 .i64 n (by omega) (by omega)
  have hr0 := Lib.hid (BRow.made w n (by omega))
  have hl0 := Lib.hid ((Below.refl w.heap.size w).alloc (Nat.le_refl _) (.cells (madeCells #[.int .u8 0] n) 5))
  go_enter Try.func25, Try.ntmps25
  go_wp2
  go_loopw [6] (fun i wr => ∃ k : Nat, k ≤ n ∧ i = .int .i64 k ∧ BRow wr w.heap.size n (fullF c k) ∧ Below w.heap.size w wr) (fun i _ => n - (intOf i).toNat)
  case atStart => exact ⟨0, Nat.zero_le _, rfl, hr0.out.congr fun i _ => rfl, hl0.out⟩
  case round =>
    obtain ⟨k, hk, rfl, hr, hl⟩ := hrel
    by_cases hlt : k < n
    · have hcl := hr.cell hlt
      have hf := hr.frozen k
      go_wp2
      go_roundw
      case rel =>
        refine ⟨k + 1, by omega, by go_num, (hr.set_ k c hc).congr fun i _ => ?_, hl.setCell (by simp) _⟩
        unfold fullF
        by_cases h : i = k
        · rw [if_pos h, if_pos (by omega)]
        · rw [if_neg h]
          by_cases h2 : i < k
          · rw [if_pos h2, if_pos (by omega)]
          · rw [if_neg h2, if_neg (by omega)]
      case measure => simp [intOf]; omega
    · obtain rfl : k = n := by omega
      go_wp2
      go_ret
      exact ⟨rfl, hr.congr fun i hi => if_pos hi, hl⟩

theorem lfull_1 (w : World) : Calls Try.prog 25 #[.int .u8 1, .int .i64 19] w fun e w' => e = .returned (.slice (some ⟨w.heap.size, 0, none⟩) 19 19) ∧ BRow w' w.heap.size 19 (fun _ => 1) ∧ Below w.heap.size w w' := lfull_any 1 19 w (by omega) (by omega)
theorem lfull_2 (w : World) : Calls Try.prog 25 #[.int .u8 2, .int .i64 19] w fun e w' => e = .returned (.slice (some ⟨w.heap.size, 0, none⟩) 19 19) ∧ BRow w' w.heap.size 19 (fun _ => 2) ∧ Below w.heap.size w w' := lfull_any 2 19 w (by omega) (by omega)
theorem awB_new [Spare] {w0 w : World} {base k : Nat} {M : DM} {S : DS} (h : On w0 base M S w) (hk : w.heap.size ≤ k) : AwB M k := by
  obtain ⟨a1, a2, a3, a4⟩ := h.d.away k (.inr hk)
  exact ⟨a1, a2, a3, a4⟩
theorem Dsk.apartR [Spare] {w : World} {base g : Nat} {M : DM} {S : DS} {cs : Array Value} {t : TypeId} (h : Dsk w base M S) (hb : w.heap[g]? = some (.cells cs t (0, 0))) (n1 : t ≠ 78) (n2 : t ≠ 42) (n3 : t ≠ 111) : g ≠ M.p ∧ g ≠ M.bf ∧ g ≠ M.bn ∧ M.vl.ownBlock ≠ some g := by
  obtain ⟨V, ⟨c, cv, _⟩, _⟩ := h.vf
  obtain ⟨U, ⟨c', cu, _⟩, _⟩ := h.vn
  obtain ⟨vs, _, l2, _⟩ := h.lo
  refine ⟨type_ne hb h.hp n1, type_ne hb cv n2, type_ne hb cu n2, fun e => ?_⟩
  rcases l2.2 with ⟨hv, _⟩ | ⟨g, cap, cur, hv, _, hh, _⟩
  · rw [hv] at e; cases e
  · rw [hv] at e
    simp only [Value.ownBlock, Option.some.injEq] at e
    subst e
    exact type_ne hb hh n3 rfl
theorem on_set [Spare] {w0 w : World} {base b i : Nat} {M : DM} {S : DS} {cs : Array Value} {v : Value} (h : On w0 base M S w) (hb : w.heap[b]? = some (.cells cs 85 (0, 0))) (hB : base ≤ b) : On w0 base M S (w.setCell ⟨b, i, none⟩ v) := by
  obtain ⟨a1, a2, a3, a4⟩ := h.d.apartR hb (by decide) (by decide) (by decide)
  have hs : ∀ q, q ≠ b → (w.setCell ⟨b, i, none⟩ v).heap[q]? = w.heap[q]? := fun q hq => Below.heap_setCell _ _ _ _ hq
  refine ⟨h.d.keep (hs _ (Ne.symm a1)) (hs _ (Ne.symm a2)) (hs _ (Ne.symm a3)) (fun k hk => hs k (fun e => a4 (by rw [hk, e]))) (keepB_store hb (by decide)) (by rw [size_set]; exact Nat.le_refl _), h.b.setCell (p := ⟨b, i, none⟩) hB _, h.z⟩
/-- What Read then hands back. -/
theorem read_aw {A : Nat → Option Addr} {w w' : World} {e : Ending} (h : ReadP (awS A) 2 4 1 w e w') : ∃ g c gb gc b o d, e = .returned (.tuple #[.slice (some ⟨g, 0, none⟩) 1 c, .int .i64 0]) ∧ w'.cell? ⟨g, 0, none⟩ = some (.slice (some ⟨gb, 0, none⟩) 2 gc) ∧
    w'.cell? ⟨gb, 2, none⟩ = some (.int .i64 6) ∧ w'.cell? ⟨gb, 3, none⟩ = some (.slice (some ⟨b, o, none⟩) 19 d) ∧ Bytes w' (some ⟨b, o, none⟩) 19 (fun _ => 2) ∧ Below w.heap.size w w' := by
  obtain ⟨⟨k, v, vs, X, hk, hch, hno, he, hown, hgr, hX⟩, hb⟩ := h
  have hk2 : k = 2 := by
    rcases Nat.lt_or_ge k 2 with h | h
    · match k, h with
      | 0, _ => exact absurd (awS_0 A) (hno (by omega))
      | 1, _ => exact absurd (awS_1 A) (hno (by omega))
    · rcases Nat.lt_or_ge 2 k with h2 | h2
      · exact absurd (hch 2 h2) (awS_2 A)
      · omega
  subst hk2
  rw [awG] at hown
  obtain ⟨g, c, rfl⟩ := ownsRow_succ hown
  have hl : vs.length = 1 := hown.1
  match vs, hl with
  | [u], _ =>
    obtain ⟨gb, gc, ls, rfl, hx, h1, h2, hrow, hcell⟩ := hgr 0 u [0, 1] rfl (by rw [awG]; rfl)
    have hls : ls.length = 2 := hrow.1
    match ls, hls with
    | [x0, x1], _ =>
      obtain ⟨hp, b, o, d, hv, _, _, _, hby⟩ := hrow.2 1 1 x1 rfl rfl
      have hc0 := World.ownsRow.cellAt (w := w') (base := w.heap.size) (e := 38) (size := 1) hown 0 (by decide)
      rw [show (awS A).size - 20 - 25 = 19 by rw [(awU A).2.2.1]] at hv hby
      refine ⟨g, c, gb, gc, b, o, d, he, hc0, ?_, ?_, hby.congr fun i hi => (awP A).2 i hi, hb⟩
      · have := hcell 2 (.int .i64 x1.1) rfl
        rw [hp, (awP A).1] at this
        exact this
      · have := hcell 3 x1.2 rfl
        rw [hv] at this
        exact this
theorem keep_conv19 {w w' : World} {g : Nat} {F : Nat → Nat} (h : BRow w g 19 F) (l : Below w.heap.size w w') : (convert 42 9 (.slice (some ⟨g, 0, none⟩) 19 19)).run Try.prog w' = .ok (.string (strF F 19)) w' := by
  have b := (h.below l h.lt).bytes (o := 0) (m := 19) (by omega)
  exact conv_any 19 (b.congr fun i _ => by rw [Nat.zero_add])
/-- Append of the two changes, of a new disk's log. -/
theorem app_aw [Spare] {w W w' : World} {b : Nat} {A : Nat → Option Addr} {M0 : DM} {e : Ending} (hO : On w w.heap.size M0 (newS 8 64) W) (hl : W.heap[b]? = some (.cells (lgCells M0.p 2 4 1 0 false) 85 (0, 0))) (hb : w.heap.size ≤ b) (h : AppP b 2 4 1 0 false 2 (awX A) w.heap.size M0 (newS 8 64) W e w') :
    e = .returned (.int .i64 0) ∧ (∃ v', On w w.heap.size { M0 with vl := v' } (awS A) w') ∧ w'.heap[b]? = some (.cells (lgCells M0.p 2 4 1 2 false) 85 (0, 0)) ∧ W.heap.size ≤ w'.heap.size := by
  rcases h with ⟨h0, _⟩ | ⟨_, w1, w8, I, l1, hw, he, hI⟩
  · exact absurd (awR A) h0
  · have hO1 := hO.below l1
    have hlb := (Array.getElem?_eq_some_iff.1 hl).1
    rcases hw with ⟨k, hk, _, hne, _⟩ | ⟨_, hr, hL⟩
    · exact absurd (awW_0 A k hk) hne
    · have hI0 : I = 0 := by
        cases hr
        exact awW_f A
      subst hI0
      obtain ⟨a1, a2, a3, a4⟩ := hO1.d.apartR ((l1.block b hlb).trans hl) (by decide) (by decide) (by decide)
      obtain ⟨v', hd, ht, _, _⟩ := hL
      have hl8 : w8.heap[b]? = some (.cells (lgCells M0.p 2 4 1 0 false) 85 (0, 0)) := (ht.block b (Nat.lt_of_lt_of_le hlb l1.size) a1 a2 a3 a4).trans ((l1.block b hlb).trans hl)
      have hO8 : On w w.heap.size { M0 with vl := v' } (awS A) w8 := ⟨hd, ht.on hO1, hO1.z⟩
      rcases hI with ⟨_, rfl⟩ | ⟨h, _⟩
      · refine ⟨he, ⟨v', on_set hO8 hl8 hb⟩, ?_, ?_⟩
        · show (w8.setCell ⟨b, 4, none⟩ (.int .i64 2)).heap[b]? = _
          simp [World.setCell, Array.getElem?_modify, hl8, lgCells]
        · rw [size_set]; exact Nat.le_trans l1.size ht.size
      · exact absurd rfl h
set_option maxRecDepth 100000 in
set_option maxHeartbeats 4000000 in
theorem lawake_gen [Spare] (w : World) (hE : ∀ g, w.heap.size ≤ g → Spare.ok g) : Calls Try.prog 14 #[] w fun e w' => e = .returned (.bool true) ∧ Below w.heap.size w w' := by
  go_enter Try.func14, Try.ntmps14
  go_wp2_with fail
  refine (new_ok 8 64 w (by omega) (by omega) hE).mono ?_
  rintro e w1 ⟨M0, rfl, d1, l1⟩
  have O1 := Lib.hid (show On w w.heap.size M0 (newS 8 64) w1 from ⟨d1, l1, Nat.le_refl _⟩)
  clear d1 l1
  go_wp2_with fail
  refine (lroom_any 64 w1 (by omega) (by omega)).mono ?_
  rintro e _ ⟨rfl, rfl⟩
  rw [show roomI 64 - 9 = 19 from rfl]
  go_wp2_with fail
  refine (start_any 2 4 1 w1 w.heap.size M0 (newS 8 64) O1.out.d (by omega) (by omega) (by omega)).mono ?_
  rintro e w2 ⟨⟨_, _, b, hb, rfl, hl⟩ | ⟨h0, _⟩, l2⟩
  rotate_left
  · exact absurd (by unfold plB newS; simp) h0
  have O2 := Lib.hid (O1.out.below l2)
  have AB := Lib.hid (awB_new O1.out hb)
  have HL := Lib.hid hl
  have hbl := (Array.getElem?_eq_some_iff.1 hl).1
  clear hl l2
  go_wp2_with (first
    | (go_at_call 25; (with_reducible refine (lfull_1 _).mono ?_); rintro e W1 ⟨rfl, r1, l1⟩)
    | (go_at_call 25; (with_reducible refine (lfull_2 _).mono ?_); rintro e W3 ⟨rfl, r3, l3⟩))
  obtain ⟨W4, hW4⟩ : ∃ W4 : World, W4 = W3.alloc (.cells #[.int .i64 5, .slice (some ⟨w2.heap.size, 0, none⟩) 19 19, .int .i64 6, .slice (some ⟨W1.heap.size, 0, none⟩) 19 19] 44) := ⟨_, rfl⟩
  have l4 : Below W3.heap.size W3 W4 := by rw [hW4]; exact (Below.refl _ _).alloc (Nat.le_refl _) _
  have O3 := O2.out.below (l1.trans (l3.mono l1.size))
  have O4 := O3.below l4
  have lw2 : Below w2.heap.size w2 W4 := (l1.trans (l3.mono l1.size)).trans (l4.mono (Nat.le_trans l1.size l3.size))
  have hl4 := (lw2.block b hbl).trans HL.out
  have R1 := (r1.below l3 r1.lt).below l4 (Nat.lt_of_lt_of_le r1.lt l3.size)
  have R3 := r3.below l4 r3.lt
  have hs1 := r1.lt
  have hs3 := r3.lt
  have hl1s := l1.size
  have hl3s := l3.size
  have hz4 : W4.heap.size = W3.heap.size + 1 := by rw [hW4]; simp
  have A1 := awB_new O2.out (Nat.le_refl w2.heap.size)
  have A2 := awB_new (O2.out.below l1) (Nat.le_refl W1.heap.size)
  have A3 := awB_new O3 (Nat.le_refl W3.heap.size)
  have hblk : W4.heap[W3.heap.size]? = some (.cells #[.int .i64 5, .slice (some ⟨w2.heap.size, 0, none⟩) 19 19, .int .i64 6, .slice (some ⟨W1.heap.size, 0, none⟩) 19 19] 44 (0, 0)) := by rw [hW4]; exact World.alloc_heap_new _ _
  have hG : Grp W4 M0 W3.heap.size 0 2 (awX fun i => if i = 0 then some ⟨w2.heap.size, 0, none⟩ else some ⟨W1.heap.size, 0, none⟩) := by
    refine ⟨by omega, fun i hi => ?_, A3, fun i hi => ?_⟩
    · match i, hi with
      | 0, _ => exact ⟨(R1.bytes (o := 0) (m := 19) (by omega)).congr fun j _ => rfl, Nat.le_refl _, (show (19 : Nat) ≤ 9223372036854775807 by omega), (fun e => by cases e), (fun q o e => by cases e; exact A1)⟩
      | 1, _ => exact ⟨(R3.bytes (o := 0) (m := 19) (by omega)).congr fun j _ => rfl, Nat.le_refl _, (show (19 : Nat) ≤ 9223372036854775807 by omega), (fun e => by cases e), (fun q o e => by cases e; exact A2)⟩
    · match i, hi with
      | 0, _ => exact ⟨by simp [World.cell?, hblk, awX], by simp [World.cell?, hblk, awX]⟩
      | 1, _ => exact ⟨by simp [World.cell?, hblk, awX], by simp [World.cell?, hblk, awX]⟩
  have KA := Lib.hid (append_any b 2 4 1 0 false W3.heap.size 0 2 2 (awX fun i => if i = 0 then some ⟨w2.heap.size, 0, none⟩ else some ⟨W1.heap.size, 0, none⟩) W4 w.heap.size M0 (newS 8 64) O4.d O4.le (by show 0 + 2 < 1000000; omega) hl4 AB.out (by omega) (by omega) (by omega) (by omega) (by omega) hG)
  have hbw : w.heap.size ≤ b := Nat.le_trans O1.out.le hb
  have H4 := Lib.hid (And.intro O4 hl4)
  have hbW := Nat.le_trans (Nat.le_of_lt hbl) lw2.size
  rw [← hW4]
  clear hG hblk A1 A2 A3 hz4 hl1s hl3s hs1 hs3 R1 R3 hl4 lw2 O3 O4 l4 r1 r3 l1 l3 hW4 hbl
  refine KA.out.mono ?_
  intro e w5 hap
  obtain ⟨rfl, ⟨v', O5⟩, hl5, hz5⟩ := app_aw H4.out.1 H4.out.2 hbw hap
  have H5 := Lib.hid (And.intro O5 hl5)
  have hb5 := (Array.getElem?_eq_some_iff.1 hl5).1
  clear hap O5 hl5 KA H4
  go_wp2_with fail
  refine (read_at w.heap.size 2 4 1 { M0 with vl := v' } (awS fun i => if i = 0 then some ⟨w2.heap.size, 0, none⟩ else some ⟨W1.heap.size, 0, none⟩) w5 H5.out.1.d (awU _).1 (by rw [(awU _).2.1]; unfold plB; omega) rfl).mono ?_
  intro e w6 hr
  obtain ⟨g, c, gb, gc, bb, o, d, rfl, c0, c2, c3, hby, l6⟩ := read_aw hr
  have hl6 := (l6.block b hb5).trans H5.out.2
  have hb6 := (Array.getElem?_eq_some_iff.1 hl6).1
  have HW6 := Lib.hid (H5.out.1.b.trans (l6.mono H5.out.1.le))
  have KS := Lib.hid (show ∀ W, Below w6.heap.size w6 W → W.cell? ⟨g, 0, none⟩ = some (.slice (some ⟨gb, 0, none⟩) 2 gc) ∧ W.cell? ⟨gb, 2, none⟩ = some (.int .i64 6) ∧ W.cell? ⟨gb, 3, none⟩ = some (.slice (some ⟨bb, o, none⟩) 19 d) ∧ (convert 42 9 (.slice (some ⟨bb, o, none⟩) 19 d)).run Try.prog W = .ok (.string (strF (fun _ => 2) 19)) W from fun W l =>
    ⟨(l.cell (cell_lt' c0)).trans c0, (l.cell (cell_lt' c2)).trans c2, (l.cell (cell_lt' c3)).trans c3, conv_any d (hby.below l (Nat.le_refl _))⟩)
  have KL := Lib.hid (show ∀ W, Below w6.heap.size w6 W → W.heap[b]? = some (.cells (lgCells M0.p 2 4 1 2 false) 85 (0, 0)) from fun W l => (l.block b hb6).trans hl6)
  clear hr c0 c2 c3 hby l6 hl6 H5 hb5 O1 O2 AB HL
  go_wp2
  go_region_held_law (fun W => W.cell? ⟨g, 0, none⟩ = some (.slice (some ⟨gb, 0, none⟩) 2 gc) ∧ W.cell? ⟨gb, 2, none⟩ = some (.int .i64 6) ∧ W.cell? ⟨gb, 3, none⟩ = some (.slice (some ⟨bb, o, none⟩) 19 d) ∧ (convert 42 9 (.slice (some ⟨bb, o, none⟩) 19 d)).run Try.prog W = .ok (.string (strF (fun _ => 2) 19)) W)
    (first | exact KS.out _ LL | exact KS.out _ LF | exact KS.out _ (Below.refl _ _).drew)
    (first
      | (go_at_call 25; (with_reducible refine (lfull_2 _).mono ?_); rintro e W7 ⟨rfl, r7, l7⟩; have LF : Below w6.heap.size w6 W7 := ((Below.refl w6.heap.size w6).drew).trans l7; have kd : (convert 42 9 (.slice (some ⟨w6.heap.size, 0, none⟩) 19 19)).run Try.prog W7 = .ok (.string (strF (fun _ => 2) 19)) W7 := keep_conv19 r7 (Below.refl _ _))
      | (go_at_call 20; (with_reducible refine (left_any b M0.p 2 4 1 2 false _ (KL.out _ LF) (by omega) (by omega) (by omega) (by omega)).mono ?_); rintro e W8 ⟨rfl, l8⟩; have LL : Below w6.heap.size w6 W8 := LF.trans (l8.mono LF.size)))
  go_wp2
  go_ret
  exact ⟨rfl, HW6.out.trans (LL.mono HW6.out.size)⟩
theorem lawake_any (w : World) : Calls Try.prog 14 #[] w fun e w' => e = .returned (.bool true) ∧ Below w.heap.size w w' := @lawake_gen ⟨fun _ => True⟩ w fun _ _ => trivial
end Go.Proofs.Ytmeijienfdefjaa
