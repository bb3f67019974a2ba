/- The contract of awake: what the chapter's examples say. -/
import Derived.Test.YtpajedofffnhdaaDAfter
import Derived.Deep.RegionHeldLaw
namespace Go.Proofs.Ytpajedofffnhdaa
open Go.RowKit

/-- append onto bytes of the call's own, as a step of a region that draws its order. -/
theorem step_append_bytes {P : Program} {ops : Array Oper} {o : Oper} {a : Act} {w : World} {K : Act → World → Prop} {Q : Exit → Act → World → Prop} {E : Prop} (hw : Region.wanted o (yielded ops a.tmps) = true) (s x : Operand) (t : TypeId)
    (ho : o.op = .call { callee := .builtin .append, args := #[s, x], argTypes := #[t, t] }) (ht : P.underlying t = some (.slice 5))
    (hinfo : (P.info? 5).map (fun i => (i.zero, i.size, i.bytes)) = some (some (.int .u8 0), 1, 1))
    (base : Nat) (A : Option Addr) (n c : Nat) (F : Nat → Nat) (hs : a.eval s = .slice A n c) (hown : OwnB w base A n c F)
    (ad : Addr) (m d : Nat) (G : Nat → Nat) (hx : a.eval x = .slice (some ad) m d) (hsrc : Bytes w (some ad) m G) (k : Nat) (hk : n + m = k) (hsmall : k ≤ 140737488355328) (hbase : base ≤ w.heap.size)
    (h : ∀ A' c' w', Hid (OwnB w' base A' k c' (catF F n G)) → Hid (w.grownBy w' (blkOf A)) → K (a.put o.dst (.slice A' k c')) w') :
    if Region.wanted o (yielded ops a.tmps) = true then Oper.wp P o a w K Q else E := by
  subst hk
  rw [if_pos hw]
  obtain ⟨i0, hi0, hz0, hz1, hz2⟩ := info_parts hinfo
  obtain ⟨v', w', hr, ho1, hg1, _, hb1⟩ := run_append_own_at (P := P) w base t o.type 5 i0 (.int .u8 0) 1 1 ht hi0 hz0 hz1 hz2 rfl (by omega) _ n _ hown.1 ad m d (cellsOfF G m) (by simp [cellsOfF]) (by
    intro j v hv
    obtain ⟨hj, rfl⟩ := cellsOfF_get hv
    obtain ⟨b, ob, e, hc⟩ := hsrc.2.2 (by omega)
    injection e with e
    subst e
    have := hc j hj
    unfold Addr.add
    split
    · rename_i h0; subst h0; simpa using this
    · simpa using this) (by
    intro v hv
    obtain ⟨k, _, rfl⟩ := List.mem_map.1 hv
    rfl) (by unfold maxLen; omega) (by omega) hbase
  unfold Oper.wp execOp
  simp only [ho, resolve, invoke, builtin, Sem.run_bind, Sem.run_pure, Result.andThen_ok, List.map_toArray, List.map_cons, List.map_nil, hs, hx, hr]
  rw [cells_cat] at ho1
  have hF : ∀ i, i < n + m → catF F n G i < 256 := fun i hi => by
    unfold catF
    split
    · exact hown.2.1 i (by omega)
    · exact hsrc.2.1 _ (by omega)
  have hg2 : w.grownBy w' (blkOf A) := by rcases A with _ | a0 <;> exact hg1
  have ho2 := ho1
  rcases ho1 with ⟨_, ⟨rfl, h0⟩ | ⟨g, cap, cur, rfl, _, _, hc1, hc2, _⟩⟩
  · have := h none 0 w' ⟨by rw [h0] at ho2 ⊢; exact ho2, hF, by omega, by omega, fun _ => rfl⟩ hg2
    rw [h0] at this
    exact this
  · exact h (some ⟨g, 0, none⟩) cap w' ⟨ho2, hF, hc1, by unfold maxLen at hc2; exact hc2, fun e => by cases e⟩ hg2

theorem BRow.ownB {w : World} {g n base : Nat} {F : Nat → Nat} (h : BRow w g n F) (hb : base ≤ g) (_hn : n ≤ 1000000) : OwnB w base (some ⟨g, 0, none⟩) n n F := by
  obtain ⟨⟨c, h1, h2, h3⟩, h4, h5⟩ := h
  refine ⟨⟨by simp [cellsOfF], .inr ⟨g, n, c, rfl, hb, h1, Nat.le_refl _, by unfold maxLen; omega, by omega, ?_⟩⟩, h4, Nat.le_refl _, h5, fun e => by cases e⟩
  rw [Nat.mul_one, List.take_of_length_le (by simp; omega)]
  apply List.ext_getElem?
  intro i
  rcases Nat.lt_or_ge i n with hi | hi
  · rw [Array.getElem?_toList, h3 i hi]
    unfold cellsOfF
    rw [List.getElem?_map, List.getElem?_range hi]
    rfl
  · rw [List.getElem?_eq_none (by simp; omega), List.getElem?_eq_none (by simp [cellsOfF]; omega)]

theorem full_13 (w : World) : Calls Try.prog 28 #[.int .u8 1, .int .i64 3] w fun e w' => e = .returned (.slice (some ⟨w.heap.size, 0, none⟩) 3 3) ∧ BRow w' w.heap.size 3 (fun _ => 1) ∧ Below w.heap.size w w' := full_any 1 3 w (by omega) (by omega)
theorem full_061 (w : World) : Calls Try.prog 28 #[.int .u8 0, .int .i64 61] w fun e w' => e = .returned (.slice (some ⟨w.heap.size, 0, none⟩) 61 61) ∧ BRow w' w.heap.size 61 (fun _ => 0) ∧ Below w.heap.size w w' := full_any 0 61 w (by omega) (by omega)
theorem full_164 (w : World) : Calls Try.prog 28 #[.int .u8 1, .int .i64 64] w fun e w' => e = .returned (.slice (some ⟨w.heap.size, 0, none⟩) 64 64) ∧ BRow w' w.heap.size 64 (fun _ => 1) ∧ Below w.heap.size w w' := full_any 1 64 w (by omega) (by omega)
theorem full_264 (w : World) : Calls Try.prog 28 #[.int .u8 2, .int .i64 64] w fun e w' => e = .returned (.slice (some ⟨w.heap.size, 0, none⟩) 64 64) ∧ BRow w' w.heap.size 64 (fun _ => 2) ∧ Below w.heap.size w w' := full_any 2 64 w (by omega) (by omega)

/-- The states that awake goes through. -/
def aw1 : DS := strikeS (keepS (newS 2 64) 0 (fun _ => 1))
def aw2 : DS := crashS aw1 (fun _ => 3) 1
def aw3 : DS := strikeS (keepS (armS aw2 1) 1 (fun _ => 2))
def aw4 : DS := crashS aw3 (fun _ => 64) 1
def aF (i : Nat) : Nat := catF (fun _ => 1) 3 (fun _ => 0) i
theorem aw2_now : ∀ i, i < 64 → aw2.now 0 i = aF i := by decide +kernel
theorem aw4_now : ∀ i, i < 64 → aw4.now 1 i = 2 := by decide +kernel

theorem keep_conv {w w' : World} {g : Nat} {F : Nat → Nat} (h : BRow w g 64 F) (l : Below w.heap.size w w') : (convert 41 9 (.slice (some ⟨g, 0, none⟩) 64 64)).run Try.prog w' = .ok (.string (strF F 64)) w' := by
  have b := (h.below l h.lt).bytes (o := 0) (m := 64) (by omega)
  exact conv_any 64 (b.congr fun i _ => by rw [Nat.zero_add])

set_option maxRecDepth 100000 in
set_option maxHeartbeats 4000000 in
theorem awake_gen [Spare] (w : World) (hE : ∀ g, w.heap.size ≤ g → Spare.ok g) : Calls Try.prog 12 #[] w fun e w' => e = .returned (.bool true) ∧ Below w.heap.size w w' := by
  go_enter Try.func12, Try.ntmps12
  go_wp2_with fail
  refine (new_ok 2 64 w (by omega) (by omega) hE).mono ?_
  rintro e w1 ⟨M0, rfl, d1, l1⟩
  have O1 := Lib.hid (show On w w.heap.size M0 (newS 2 64) w1 from ⟨d1, l1, Nat.le_refl _⟩)
  clear d1 l1
  go_wp2_with fail
  refine (full_164 w1).mono ?_
  rintro e w2 ⟨rfl, r2, l2⟩
  have O2 := Lib.hid (O1.out.below l2)
  have B2 := Lib.hid ((r2.bytes (o := 0) (m := 64) (by omega)).congr (G := fun _ => 1) fun i _ => rfl)
  clear r2 l2 O1
  go_wp2_with fail
  refine (write_ok 0 w1.heap.size 0 64 (fun _ => 1) w2 w.heap.size M0 (newS 2 64) O2.out.d O2.out.le rfl (by decide) (by decide) B2.out).mono ?_
  rintro e w3 ⟨rfl, L3⟩
  obtain ⟨v3, o3⟩ := O2.out.left L3
  have O3 := Lib.hid (show On w w.heap.size { M0 with vl := v3 } aw1 w3 from o3)
  clear o3 L3 B2 O2
  rw [show strikeI (keepS (newS 2 64) 0 (fun _ => 1)) = 0 from rfl]
  go_wp2_with fail
  refine (crash_one 3 w w3 w.heap.size { M0 with vl := v3 } aw1 O3.out (by omega) (by omega) 1).mono ?_
  rintro e w4 ⟨rfl, o4, _⟩
  have O4 := Lib.hid (show On w w.heap.size { M0 with vl := .slice none 0 0 } aw2 w4 from o4)
  clear o4 O3
  go_wp2_with fail
  refine (readDisk_ok 0 w4 w.heap.size { M0 with vl := .slice none 0 0 } aw2 O4.out.d (by decide) rfl).mono ?_
  rintro e w5 ⟨rfl, r5, l5⟩
  have O5 := Lib.hid (O4.out.below l5)
  have R5 := Lib.hid ((show BRow w5 w4.heap.size 64 (aw2.now 0) from r5).congr aw2_now)
  have z5 := R5.out.lt
  clear r5 l5 O4
  rw [show aw2.size = 64 from rfl]
  go_wp2_with fail
  refine (arm_any 1 w5 w.heap.size { M0 with vl := .slice none 0 0 } aw2 O5.out.d (by omega)).mono ?_
  rintro e w6 ⟨rfl, d6, t6, _⟩
  have O6 := Lib.hid (show On w w.heap.size { M0 with vl := .slice none 0 0 } (armS aw2 1) w6 from O5.out.to (v' := .slice none 0 0) d6 t6)
  have R6 := Lib.hid (show BRow w6 w4.heap.size 64 aF from R5.out.turns O5.out.d t6)
  clear d6 t6 O5 R5 z5
  go_wp2_with fail
  refine (full_264 w6).mono ?_
  rintro e w7 ⟨rfl, r7, l7⟩
  have O7 := Lib.hid (O6.out.below l7)
  have R7 := Lib.hid (R6.out.below l7 R6.out.lt)
  have B7 := Lib.hid ((r7.bytes (o := 0) (m := 64) (by omega)).congr (G := fun _ => 2) fun i _ => rfl)
  clear r7 l7 O6 R6
  go_wp2_with fail
  refine (write_ok 1 w6.heap.size 0 64 (fun _ => 2) w7 w.heap.size { M0 with vl := .slice none 0 0 } (armS aw2 1) O7.out.d O7.out.le rfl (by decide) (by decide) B7.out).mono ?_
  rintro e w8 ⟨rfl, L8⟩
  obtain ⟨v8, o8⟩ := O7.out.left L8
  have O8 := Lib.hid (show On w w.heap.size { M0 with vl := v8 } aw3 w8 from o8)
  have R8 := Lib.hid (R7.out.left O7.out.d L8)
  clear o8 L8 B7 O7 R7
  rw [show strikeI (keepS (armS aw2 1) 1 (fun _ => 2)) = 4 from rfl]
  go_wp2_with fail
  refine (down_any w8 w.heap.size { M0 with vl := v8 } aw3 O8.out.d).mono ?_
  rintro e w9 ⟨rfl, rfl⟩
  rw [show aw3.down = true from rfl]
  go_wp2_with fail
  refine (crash_one 64 w w8 w.heap.size { M0 with vl := v8 } aw3 O8.out (by omega) (by omega) 1).mono ?_
  rintro e w10 ⟨rfl, o10, b10⟩
  have O10 := Lib.hid (show On w w.heap.size { M0 with vl := .slice none 0 0 } aw4 w10 from o10)
  have R10 := Lib.hid (b10 _ _ _ R8.out)
  clear o10 b10 R8 O8
  go_wp2_with fail
  refine (readDisk_ok 1 w10 w.heap.size { M0 with vl := .slice none 0 0 } aw4 O10.out.d (by decide) rfl).mono ?_
  rintro e w11 ⟨rfl, r11, l11⟩
  have O11 := Lib.hid (O10.out.b.trans (l11.mono O10.out.le))
  have P11 := Lib.hid ((show BRow w11 w10.heap.size 64 (aw4.now 1) from r11).congr (G := fun _ => 2) aw4_now)
  have R11 := Lib.hid (R10.out.below l11 R10.out.lt)
  have KS := Lib.hid (show ∀ W, Below w11.heap.size w11 W → (convert 41 9 (.slice (some ⟨w4.heap.size, 0, none⟩) 64 64)).run Try.prog W = .ok (.string (strF aF 64)) W ∧ (convert 41 9 (.slice (some ⟨w10.heap.size, 0, none⟩) 64 64)).run Try.prog W = .ok (.string (strF (fun _ => 2) 64)) W from
    fun W l => ⟨keep_conv R11.out l, keep_conv P11.out l⟩)
  have hz := O11.out.size
  clear r11 l11 O10 R10 P11 R11
  rw [show aw4.size = 64 from rfl]
  go_wp2
  go_region_held_law (fun W => (convert 41 9 (.slice (some ⟨w4.heap.size, 0, none⟩) 64 64)).run Try.prog W = .ok (.string (strF aF 64)) W ∧ (convert 41 9 (.slice (some ⟨w10.heap.size, 0, none⟩) 64 64)).run Try.prog W = .ok (.string (strF (fun _ => 2) 64)) W)
    (first | exact KS.out _ LD | exact KS.out _ LC | exact KS.out _ LE | exact KS.out _ LA | exact KS.out _ LB | exact KS.out _ (Below.refl _ _).drew)
    (first
      | (go_at_call 28; (with_reducible refine (full_13 _).mono ?_); rintro e W1 ⟨rfl, r1, l1⟩; have LE : Below w11.heap.size w11 W1 := (by first | exact LB.trans (l1.mono LB.size) | exact ((Below.refl w11.heap.size w11).drew).trans l1); have LA := LE; have RA := Lib.hid r1; have HA := Lib.hid (Nat.le_refl W1.heap.size); (try have RB1 := Lib.hid (RB.out.below l1 RB.out.lt)))
      | (go_at_call 28; (with_reducible refine (full_061 _).mono ?_); rintro e W2 ⟨rfl, r2, l2⟩; have LE : Below w11.heap.size w11 W2 := (by first | exact LA.trans (l2.mono LA.size) | exact ((Below.refl w11.heap.size w11).drew).trans l2); have LB := LE; have RB := Lib.hid r2; (try have RA1 := Lib.hid (RA.out.below l2 RA.out.lt)))
      | (go_at_call 28; (with_reducible refine (full_264 _).mono ?_); rintro e W4 ⟨rfl, r4, l4⟩; have LD := LC.trans (l4.mono LC.size); have kd := keep_conv r4 (Below.refl _ _))
      | (refine step_append_bytes (by rfl) (.tmp 45) (.tmp 46) 41 rfl Try.underlying41 u8infoAll w11.heap.size _ 3 3 (fun _ => 1) rfl ?ho _ 61 61 (fun _ => 0) rfl ?hb 64 rfl (by omega) ?hz ?hh
         case ho => (first | exact RA1.out.ownB (by first | exact Nat.le_refl _ | exact LB.size | (simp; done)) (by omega) | exact RA.out.ownB (by first | exact Nat.le_refl _ | exact LB.size | (simp; done)) (by omega))
         case hb => (first | exact (RB1.out.bytes (o := 0) (m := 61) (by omega)).congr fun i _ => rfl | exact (RB.out.bytes (o := 0) (m := 61) (by omega)).congr fun i _ => rfl)
         case hz => exact LE.size
         intro A' c' W3 o3 g3
         have LC : Below w11.heap.size w11 W3 := LE.grown g3.out LE.size (by rintro j ⟨⟩; (first | exact Nat.le_refl _ | exact LB.size))
         have kc : (convert 41 9 (.slice A' 64 c')).run Try.prog W3 = .ok (.string (strF aF 64)) W3 := conv_any c' o3.out.bytes))
  go_wp2
  go_ret
  exact ⟨rfl, O11.out.trans (LD.mono O11.out.size)⟩
theorem awake_any (w : World) : Calls Try.prog 12 #[] w fun e w' => e = .returned (.bool true) ∧ Below w.heap.size w w' := @awake_gen ⟨fun _ => True⟩ w fun _ _ => trivial
end Go.Proofs.Ytpajedofffnhdaa
