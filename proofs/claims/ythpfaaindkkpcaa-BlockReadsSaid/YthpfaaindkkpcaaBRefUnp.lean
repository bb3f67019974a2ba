/- the document's Unpack: every row of bytes. -/
import Derived.Test.YthpfaaindkkpcaaBRdPlain
import Derived.Deep.Cut
namespace Go.Proofs.Ythpfaaindkkpcaa
open Go.RowKit Go.Maps
set_option linter.unusedVariables false
set_option linter.unusedSimpArgs false

/-- How the document's Unpack ends. -/
def RUEnd (xs : List Nat) (w : World) (e : Ending) (w' : World) : Prop :=
  (∃ ls A' c' Q, unpL xs = some ls ∧ e = .returned (.tuple #[.slice A' ls.length c', .int .i64 0]) ∧ Psts w' A' ls.length Q ∧ fromD Q 0 ls.length = ls ∧ Below w.heap.size w w') ∨
  (unpL xs = none ∧ e = .returned (.tuple #[.slice none 0 0, .int .i64 5]) ∧ Below w.heap.size w w')
def N3 (W : World) (B : Nat) (x y z : Nat) : Prop := W.heap[B]? = some (.cells #[.int .i64 x, .int .i64 y, .int .i64 z] 41)
theorem N3.c {W : World} {B x y z : Nat} (h : N3 W B x y z) : W.cell? ⟨B, 0, none⟩ = some (.int .i64 x) ∧ W.cell? ⟨B, 1, none⟩ = some (.int .i64 y) ∧ W.cell? ⟨B, 2, none⟩ = some (.int .i64 z) ∧ W.frozen? ⟨B, 0, none⟩ = false ∧ W.frozen? ⟨B, 1, none⟩ = false ∧ W.frozen? ⟨B, 2, none⟩ = false := by
  unfold N3 at h
  refine ⟨by simpa using cell_of_row W B 0 _ _ _ h, by simpa using cell_of_row W B 1 _ _ _ h, by simpa using cell_of_row W B 2 _ _ _ h, ?_, ?_, ?_⟩ <;> · unfold World.frozen?; simp [h]
theorem N3.lt {W : World} {B x y z : Nat} (h : N3 W B x y z) : B < W.heap.size := (Array.getElem?_eq_some_iff.1 h).1
theorem N3.set0 {W : World} {B x y z : Nat} (h : N3 W B x y z) (u : Nat) : N3 (W.setCell ⟨B, 0, none⟩ (.int .i64 u)) B u y z := by
  unfold N3 at h ⊢; simp [World.setCell, Array.getElem?_modify, h]
theorem N3.set1 {W : World} {B x y z : Nat} (h : N3 W B x y z) (u : Nat) : N3 (W.setCell ⟨B, 1, none⟩ (.int .i64 u)) B x u z := by
  unfold N3 at h ⊢; simp [World.setCell, Array.getElem?_modify, h]
theorem N3.set2 {W : World} {B x y z : Nat} (h : N3 W B x y z) (u : Nat) : N3 (W.setCell ⟨B, 2, none⟩ (.int .i64 u)) B x y u := by
  unfold N3 at h ⊢; simp [World.setCell, Array.getElem?_modify, h]
theorem N3.below {W W' : World} {B x y z n : Nat} (h : N3 W B x y z) (hb : Below n W W') (hn : B < n) : N3 W' B x y z := (hb.block B hn).trans h
def P3 (W : World) (P : Nat) (a b : Int) (v : Value) : Prop := W.heap[P]? = some (.cells #[.int .i64 a, .int .i64 b, v] 44)
theorem P3.c {W : World} {P : Nat} {a b : Int} {v : Value} (h : P3 W P a b v) : W.cell? ⟨P, 0, none⟩ = some (.int .i64 a) ∧ W.cell? ⟨P, 1, none⟩ = some (.int .i64 b) ∧ W.cell? ⟨P, 2, none⟩ = some v ∧ W.frozen? ⟨P, 0, none⟩ = false ∧ W.frozen? ⟨P, 1, none⟩ = false ∧ W.frozen? ⟨P, 2, none⟩ = false := by
  unfold P3 at h
  refine ⟨by simpa using cell_of_row W P 0 _ _ _ h, by simpa using cell_of_row W P 1 _ _ _ h, by simpa using cell_of_row W P 2 _ _ _ h, ?_, ?_, ?_⟩ <;> · unfold World.frozen?; simp [h]
theorem P3.lt {W : World} {P : Nat} {a b : Int} {v : Value} (h : P3 W P a b v) : P < W.heap.size := (Array.getElem?_eq_some_iff.1 h).1
theorem P3.set2 {W : World} {P : Nat} {a b : Int} {v : Value} (h : P3 W P a b v) (u : Value) : P3 (W.setCell ⟨P, 2, none⟩ u) P a b u := by
  unfold P3 at h ⊢; simp [World.setCell, Array.getElem?_modify, h]
theorem P3.below {W W' : World} {P n : Nat} {a b : Int} {v : Value} (h : P3 W P a b v) (hb : Below n W W') (hn : P < n) : P3 W' P a b v := (hb.block P hn).trans h
theorem plP_list (a l : Int) (A : Option Addr) (c : Nat) (ps : List Int) : plP ⟨a, l, A, ps.length, c, fun i => ps.getD i 0⟩ = (a, l, ps) := by
  unfold plP
  dsimp only
  congr 2
  refine ext_getD 0 (fromI_len _ _ _) fun i hi => ?_
  rw [fromI_len] at hi
  rw [fromI_get _ _ _ _ hi, Nat.zero_add]
theorem fromD_put (Q : Nat → Pst) (k : Nat) (p : Pst) : fromD (putQ Q k p) 0 (k + 1) = fromD Q 0 k ++ [plP p] := by
  refine ext_getD (0, 0, []) (by simp [fromD_len]) fun i hi => ?_
  rw [fromD_len] at hi
  rw [fromD_get _ _ _ _ hi, Nat.zero_add]
  by_cases e : i = k
  · subst e
    rw [putQ_at]
    simp [List.getD_eq_getElem?_getD, fromD_len]
  · rw [putQ_ne e]
    have h := fromD_get Q k 0 i (by omega)
    rw [Nat.zero_add] at h
    simp only [List.getD_eq_getElem?_getD] at h ⊢
    rw [List.getElem?_append_left (by rw [fromD_len]; omega), h]
theorem strU_inj {xs ys : List Nat} (hx : ∀ x ∈ xs, x < 256) (hy : ∀ x ∈ ys, x < 256) (h : strU xs = strU ys) : xs = ys := by
  unfold strU at h
  injection h with h
  have h1 : xs.map UInt8.ofNat = ys.map UInt8.ofNat := by simpa using congrArg Array.toList h
  have h2 := congrArg (List.map UInt8.toNat) h1
  rw [List.map_map, List.map_map] at h2
  have e : ∀ (zs : List Nat), (∀ x ∈ zs, x < 256) → zs.map (UInt8.toNat ∘ UInt8.ofNat) = zs := fun zs hz => by
    conv => rhs; rw [← List.map_id zs]
    refine List.map_congr_left fun x hxz => ?_
    have := hz x hxz
    simp [UInt8.toNat_ofNat']
    omega
  rwa [e xs hx, e ys hy] at h2
theorem get_none {A : Option Addr} {m d : Nat} {F : Nat → Nat} {a : Nat} (hm : m ≤ 1000000) (ha : a ≤ m) (h : gI F m 8 0 a = none) (w : World) (hB : Bytes w A m F) :
    Calls Try.prog 14 #[.slice A m d, .int .i64 (a : Nat)] w fun e w' => e = .returned (.tuple #[.int .i64 0, .int .i64 (-1)]) ∧ Below w.heap.size w w' := by
  have := get_any A m d F a w hB hm ha
  rw [h] at this
  exact this
theorem get_some {A : Option Addr} {m d : Nat} {F : Nat → Nat} {a x nx : Nat} (hm : m ≤ 1000000) (ha : a ≤ m) (h : gI F m 8 0 a = some (x, nx)) (w : World) (hB : Bytes w A m F) :
    Calls Try.prog 14 #[.slice A m d, .int .i64 (a : Nat)] w fun e w' => e = .returned (.tuple #[.int .i64 (x : Nat), .int .i64 (nx : Nat)]) ∧ Below w.heap.size w w' := by
  have := get_any A m d F a w hB hm ha
  rw [h] at this
  exact this
theorem get_none0 {A : Option Addr} {m d : Nat} {F : Nat → Nat} (hm : m ≤ 1000000) (h : gI F m 8 0 0 = none) (w : World) (hB : Bytes w A m F) :
    Calls Try.prog 14 #[.slice A m d, .int .i64 0] w fun e w' => e = .returned (.tuple #[.int .i64 0, .int .i64 (-1)]) ∧ Below w.heap.size w w' := get_none hm (Nat.zero_le _) h w hB
theorem get_some0 {A : Option Addr} {m d : Nat} {F : Nat → Nat} {x nx : Nat} (hm : m ≤ 1000000) (h : gI F m 8 0 0 = some (x, nx)) (w : World) (hB : Bytes w A m F) :
    Calls Try.prog 14 #[.slice A m d, .int .i64 0] w fun e w' => e = .returned (.tuple #[.int .i64 (x : Nat), .int .i64 (nx : Nat)]) ∧ Below w.heap.size w w' := get_some hm (Nat.zero_le _) h w hB
theorem lastP_le : ∀ (xs : List Nat) (p : Int), (∀ x ∈ xs, x ≤ 1048576) → p ≤ lastP p xs ∧ lastP p xs ≤ p + xs.length * 1048577 := by
  intro xs
  induction xs with
  | nil => intro p _; exact ⟨Int.le_refl _, by simp [lastP]⟩
  | cons x xs ih =>
    intro p h
    have hx := h x (by simp)
    obtain ⟨h1, h2⟩ := ih (p + (1 + x)) fun y hy => h y (by simp [hy])
    rw [lastP, List.length_cons]
    constructor
    · omega
    · push_cast; omega
theorem plcs_in : ∀ (xs : List Nat) (p : Int), (∀ x ∈ xs, x ≤ 1048576) → ∀ y ∈ plcs p xs, p < y ∧ y ≤ p + xs.length * 1048577 := by
  intro xs
  induction xs with
  | nil => intro p _ y hy; cases hy
  | cons x xs ih =>
    intro p h y hy
    have hx := h x (by simp)
    rw [plcs, List.mem_cons] at hy
    rw [List.length_cons]
    rcases hy with rfl | hy
    · constructor
      · omega
      · push_cast; omega
    · have := ih (p + (1 + x)) (fun z hz => h z (by simp [hz])) y hy
      constructor
      · omega
      · push_cast; omega
theorem str_ne {a b : ByteArray} (h : a ≠ b) : (a == b) = false := by
  show (a.data == b.data) = false
  have : a.data ≠ b.data := fun e => h (ByteArray.ext e)
  simpa using this
theorem str_ne2 {a b : ByteArray} (h : a ≠ b) : (a.toList == b.toList) = false := by
  rw [ByteArray.toList_eq, ByteArray.toList_eq]
  have : a.data.toList ≠ b.data.toList := fun e => h (ByteArray.ext (Array.ext' e))
  simpa using this
theorem own_isI {w : World} {base : Nat} {v : Value} {xs : List Int} (h : OwnI w base v xs) : ∃ A n c, v = .slice A n c := by
  obtain ⟨A, c, e, _⟩ := own_slice h
  exact ⟨A, _, c, e⟩
theorem own_lenI {w : World} {base : Nat} {A : Option Addr} {n c : Nat} {xs : List Int} (h : OwnI w base (.slice A n c) xs) : n = xs.length := by
  obtain ⟨A', c', e, _⟩ := own_slice h
  injection e
theorem own_nilI {w : World} {base : Nat} {A : Option Addr} {n c : Nat} {xs : List Int} (h : OwnI w base (.slice A n c) xs) : A = none → c = 0 := by
  intro e
  subst e
  obtain ⟨hl, ⟨hv, h0⟩ | ⟨g, cap, cur, hv, _⟩⟩ := h
  · injection hv
  · injection hv with e _ _
    cases e
theorem own_setI {w : World} {base P o : Nat} {v u : Value} {xs : List Int} (h : OwnI w base v xs) (hP : P < base) : OwnI (w.setCell ⟨P, o, none⟩ u) base v xs := by
  obtain ⟨hl, h0 | ⟨g, cap, cur, hv, hg, hh, r⟩⟩ := h
  · exact ⟨hl, .inl h0⟩
  · exact ⟨hl, .inr ⟨g, cap, cur, hv, hg, (Below.heap_setCell _ _ _ _ (by show g ≠ P; omega)).trans hh, r⟩⟩
/-- One int is put behind a row of the call's own. -/
theorem wpList_pushI {P : Program} (w : World) {ops : Array Oper} {rest : List Oper} {o : Oper} {a : Act} {Q : Exit → Act → World → Prop} (hgd : o.guard = none) (s x : Operand) (t : TypeId)
    (ho : o.op = .call { callee := .builtin .append, args := #[s, x], argTypes := #[t, t] }) (ht : P.underlying t = some (.slice 3))
    (hinfo : (P.info? 3).map (fun i => (i.zero, i.size, i.bytes)) = some (some (.int .i64 0), 1, 8))
    (base : Nat) (v : Value) (xs : List Int) (hs : a.eval s = v) (hown : OwnI w base v xs)
    (f : Int) (hx : a.eval x = .slice (some ⟨w.heap.size, 0, none⟩) 1 1) (hsmall : xs.length ≤ 1000000) (hbase : base ≤ w.heap.size)
    (h : ∀ v' w', OwnI w' base v' (xs ++ [f]) → w.grownBy w' v.ownBlock → wpList P ops Q rest (a.put o.dst v') w') :
    wpList P ops Q (o :: rest) a (w.alloc (.cells #[.int .i64 f] 3)) := by
  obtain ⟨i0, hi, hz0, hz1, hz2⟩ := info_parts hinfo
  refine wpList_append_own_at _ hgd s x t ho base 3 i0 (.int .i64 0) 1 8 ht hi hz0 hz1 hz2 rfl (by decide) v xs.length (intsL xs) hs (hown.alloc _) ⟨w.heap.size, 0, none⟩ 1 1 [.int .i64 f] hx rfl (cell_one_new _ _ _) (fun u hu => by simp at hu; subst hu; rfl) (by unfold maxLen; omega) (by omega) (by simp; omega) ?_
  intro v' w' h1 h2 _ h4
  exact h v' w' (own_snoc h1) (grown_alloc h2)
set_option maxRecDepth 100000 in
set_option maxHeartbeats 16000000 in
theorem refUnp_any (A : Option Addr) (m d : Nat) (F : Nat → Nat) (w : World) (hB : Bytes w A m F) (hm : m ≤ 600) :
    Calls Try.prog 6 #[.slice A m d] w (RUEnd ((List.range m).map F) w) := by
  have hX : ∀ x ∈ (List.range m).map F, x < 256 := (rb_bytes hB).2.1
  have HX := Lib.hid hX
  have HNone : Hid (rfL F m = none → unpL ((List.range m).map F) = none) := Lib.hid fun h => rf_none hX h
  have HB := Lib.hid hB
  obtain ⟨xs, hxs⟩ : ∃ xs, xs = (List.range m).map F := ⟨_, rfl⟩
  clear hB hX
  cases hg : gI F m 8 0 0 with
  | none =>
    have HE : Hid (RUEnd ((List.range m).map F) w (.returned (.tuple #[.slice none 0 0, .int .i64 5])) = RUEnd ((List.range m).map F) w (.returned (.tuple #[.slice none 0 0, .int .i64 5]))) := Lib.hid rfl
    have HZ := Lib.hid (HNone.out (by unfold rfL; rw [hg]))
    have HG := Lib.hid (get_none0 (d := d) (by omega) hg w HB.out)
    clear hg hxs HE
    go_enter Try.func6, Try.ntmps6
    go_wp2_with (first
      | (go_at_call 14; (with_reducible refine HG.out.mono ?_); rintro e w1 ⟨rfl, l1⟩; have L1 := Lib.hid l1; clear l1))
    go_ret2
    exact .inr ⟨HZ.out, rfl, L1.out⟩
  | some q =>
    obtain ⟨c, a0⟩ := q
    have ha0 := gI_le hg
    have HG := Lib.hid (get_some0 (d := d) (by omega) hg w HB.out)
    by_cases hc : 64 < c
    · have HZ := Lib.hid (HNone.out (by unfold rfL; rw [hg]; exact if_pos hc))
      clear hg hxs
      go_enter Try.func6, Try.ntmps6
      go_wp2_with (first
        | (go_at_call 14; (with_reducible refine HG.out.mono ?_); rintro e w1 ⟨rfl, l1⟩; have L1 := Lib.hid l1; clear l1))
      go_ret2
      exact .inr ⟨HZ.out, rfl, L1.out⟩
    · have HR : Hid (rfL F m = (psR F m c (-1) a0).map Prod.fst) := Lib.hid (by unfold rfL; rw [hg]; exact if_neg hc)
      have HRn : Hid (psR F m c (-1) a0 = none → unpL ((List.range m).map F) = none) := Lib.hid fun h => HNone.out (by rw [HR.out, h]; rfl)
      have HP0 := Lib.hid (psAt_zero F m c (-1) a0)
      generalize hR : psR F m c (-1) a0 = R at HR HRn HP0
      clear hg hxs hR
      have hc64 : c ≤ 64 := by omega
      go_enter Try.func6, Try.ntmps6
      go_wp2_with (first
        | (go_at_call 14; (with_reducible refine HG.out.mono ?_); rintro e w1 ⟨rfl, l1⟩; have L1 := Lib.hid l1; clear l1))
      clear HG
      go_loopw [5, 6, 7, 8] (fun at' v row i wr => ∃ (k a : Nat) (rw : Int) (Q : Nat → Pst) (pre : List (Int × Int × List Int)), k ≤ c ∧ i = .int .i64 k ∧ at' = .int .i64 a ∧ row = .int .i64 rw ∧ a ≤ m ∧ -1 ≤ rw ∧ rw ≤ k * 9007199254740993 ∧ PsAt F m c R k pre rw a ∧ OwnQ 44 wr w.heap.size v k Q ∧ fromD Q 0 k = pre ∧ Below w.heap.size w wr) (fun _ _ _ i _ => c - (intOf i).toNat)
      case atStart => exact ⟨0, a0, -1, _, [], by omega, rfl, rfl, rfl, ha0, by omega, by omega, HP0.out, ownQ_nil _ _ _ (fun _ => ⟨0, 0, none, 0, 0, fun _ => 0⟩), rfl, L1.out⟩
      case round =>
        obtain ⟨k, a, rw', Q, pre, hk, rfl, rfl, rfl, ha, hr1, hr2, hps, ho, hpre, hnx⟩ := hrel
        have HPs := Lib.hid hps
        have HO := Lib.hid ho
        have HPre := Lib.hid hpre
        have HN := Lib.hid hnx
        have hws := hnx.size
        clear hps ho hpre hnx HP0 L1
        by_cases hlt : k < c
        · have HNo : Hid (pR F m rw' a = none → unpL ((List.range m).map F) = none) := Lib.hid fun h => HRn.out (HPs.out.no hlt h)
          have HOn : Hid (∀ (p : Int × Int × List Int) (nx : Nat), pR F m rw' a = some (p, nx) → PsAt F m c R (k + 1) (pre ++ [p]) p.1 nx) := Lib.hid fun p nx h => HPs.out.on hlt h
          go_wp2_with fail
          obtain ⟨wo, HW⟩ : ∃ wo : World, Hid (wo = wr) := ⟨_, Lib.hid rfl⟩
          rw [← HW.out] at HN HO hws ⊢
          clear HW
          obtain ⟨R3, hR3⟩ : ∃ R3, R3 = nsR F m 9007199254740992 3 a := ⟨_, rfl⟩
          have HR3 := Lib.hid hR3
          have HNs0 := Lib.hid (nsAt_zero F m 9007199254740992 3 a)
          rw [← hR3] at HNs0
          have HNo3 : Hid (R3 = none → unpL ((List.range m).map F) = none) := Lib.hid fun h => HNo.out (pR_no1 (HR3.out.symm.trans h))
          clear hR3
          have hwo : w.heap.size ≤ wo.heap.size := hws
          go_loopw [5, 10] (fun at' i W => ∃ (k3 a3 x y z : Nat), k3 ≤ 3 ∧ i = .int .i64 k3 ∧ at' = .int .i64 a3 ∧ a3 ≤ m ∧ x ≤ 9007199254740992 ∧ y ≤ 9007199254740992 ∧ z ≤ 9007199254740992 ∧ NsAt F m 9007199254740992 3 R3 k3 ([x, y, z].take k3) a3 ∧ N3 W wo.heap.size x y z ∧ Below wo.heap.size wo W) (fun _ i _ => 3 - (intOf i).toNat)
          case atStart => exact ⟨0, a, 0, 0, 0, by omega, rfl, rfl, ha, by omega, by omega, by omega, HNs0.out, heap_alloc_new wo _, (Below.refl _ _).alloc (Nat.le_refl _) _⟩
          case round =>
            obtain ⟨k3, a3, x, y, z, hk3, rfl, rfl, ha3, hx, hy, hz, hns, hn3, hb3⟩ := hrel
            have HNs := Lib.hid hns
            have HN3 := Lib.hid hn3
            have HB3 := Lib.hid hb3
            have HN3b := Lib.hid (HN.out.trans (hb3.mono hwo))
            clear hns hn3 hb3 HNs0
            by_cases hl3 : k3 < 3
            · cases hg : gI F m 8 0 a3 with
              | none =>
                have HZ := Lib.hid (HNo3.out (HNs.out.no hl3 hg))
                have HG : Hid (∀ W, Below w.heap.size w W → Calls Try.prog 14 #[.slice A m d, .int .i64 (a3 : Nat)] W fun e w' => e = .returned (.tuple #[.int .i64 0, .int .i64 (-1)]) ∧ Below W.heap.size W w') := Lib.hid fun W l => get_none (by omega) ha3 hg W (HB.out.below l (Nat.le_refl _))
                clear hg
                go_wp2_with (first
                  | (go_at_call 14; (with_reducible refine (HG.out _ HN3b.out).mono ?_); rintro e w4 ⟨rfl, l2⟩; have L4 := Lib.hid (HN3b.out.trans (l2.mono HN3b.out.size)); clear l2))
                go_ret2
                exact .inr ⟨HZ.out, rfl, L4.out⟩
              | some q =>
                obtain ⟨X, nx⟩ := q
                have HG : Hid (∀ W, Below w.heap.size w W → Calls Try.prog 14 #[.slice A m d, .int .i64 (a3 : Nat)] W fun e w' => e = .returned (.tuple #[.int .i64 (X : Nat), .int .i64 (nx : Nat)]) ∧ Below W.heap.size W w') := Lib.hid fun W l => get_some (by omega) ha3 hg W (HB.out.below l (Nat.le_refl _))
                by_cases hX : 9007199254740992 < X
                · have HZ := Lib.hid (HNo3.out (HNs.out.big hl3 hg hX))
                  clear hg
                  go_wp2_with (first
                    | (go_at_call 14; (with_reducible refine (HG.out _ HN3b.out).mono ?_); rintro e w4 ⟨rfl, l2⟩; have L4 := Lib.hid (HN3b.out.trans (l2.mono HN3b.out.size)); clear l2))
                  go_ret2
                  exact .inr ⟨HZ.out, rfl, L4.out⟩
                · rcases k3 with _ | _ | _ | k3
                  · have HNs2 : Hid (NsAt F m 9007199254740992 3 R3 (0 + 1) ([X, y, z].take (0 + 1)) nx) := Lib.hid (HNs.out.on hl3 hg hX)
                    have hnx := gI_le hg
                    have hX2 : X ≤ 9007199254740992 := by omega
                    clear hg hX HNs
                    go_wp2_with (first
                      | (go_at_call 14; (with_reducible refine (HG.out _ HN3b.out).mono ?_); rintro e w4 ⟨rfl, l2⟩; have HN4 := Lib.hid (HN3.out.below l2 HN3.out.lt); obtain ⟨c0, c1, c2, f0, f1, f2⟩ := HN4.out.c; have HB4 := Lib.hid (HB3.out.trans (l2.mono HB3.out.size)); clear l2))
                    exact ⟨⟨0 + 1, nx, X, y, z, by omega, by go_num, rfl, hnx, by omega, by omega, by omega, HNs2.out, HN4.out.set0 X, HB4.out.setCell (p := ⟨wo.heap.size, 0, none⟩) (Nat.le_refl _) _⟩, by simp [intOf]⟩
                  · have HNs2 : Hid (NsAt F m 9007199254740992 3 R3 (1 + 1) ([x, X, z].take (1 + 1)) nx) := Lib.hid (HNs.out.on hl3 hg hX)
                    have hnx := gI_le hg
                    have hX2 : X ≤ 9007199254740992 := by omega
                    clear hg hX HNs
                    go_wp2_with (first
                      | (go_at_call 14; (with_reducible refine (HG.out _ HN3b.out).mono ?_); rintro e w4 ⟨rfl, l2⟩; have HN4 := Lib.hid (HN3.out.below l2 HN3.out.lt); obtain ⟨c0, c1, c2, f0, f1, f2⟩ := HN4.out.c; have HB4 := Lib.hid (HB3.out.trans (l2.mono HB3.out.size)); clear l2))
                    exact ⟨⟨1 + 1, nx, x, X, z, by omega, by go_num, rfl, hnx, by omega, by omega, by omega, HNs2.out, HN4.out.set1 X, HB4.out.setCell (p := ⟨wo.heap.size, 1, none⟩) (Nat.le_refl _) _⟩, by simp [intOf]⟩
                  · have HNs2 : Hid (NsAt F m 9007199254740992 3 R3 (2 + 1) ([x, y, X].take (2 + 1)) nx) := Lib.hid (HNs.out.on hl3 hg hX)
                    have hnx := gI_le hg
                    have hX2 : X ≤ 9007199254740992 := by omega
                    clear hg hX HNs
                    go_wp2_with (first
                      | (go_at_call 14; (with_reducible refine (HG.out _ HN3b.out).mono ?_); rintro e w4 ⟨rfl, l2⟩; have HN4 := Lib.hid (HN3.out.below l2 HN3.out.lt); obtain ⟨c0, c1, c2, f0, f1, f2⟩ := HN4.out.c; have HB4 := Lib.hid (HB3.out.trans (l2.mono HB3.out.size)); clear l2))
                    exact ⟨⟨2 + 1, nx, x, y, X, by omega, by go_num, rfl, hnx, by omega, by omega, by omega, HNs2.out, HN4.out.set2 X, HB4.out.setCell (p := ⟨wo.heap.size, 2, none⟩) (Nat.le_refl _) _⟩, by simp [intOf]⟩
                  · omega
            · obtain rfl : k3 = 3 := by omega
              have HE3 : Hid (R3 = some ([x, y, z], a3)) := Lib.hid (HNs.out.end_)
              have HNo4 : Hid (m ≤ z → unpL ((List.range m).map F) = none) := Lib.hid fun h => HNo.out (pR_no2 (HR3.out.symm.trans HE3.out) h)
              have HNo5 : Hid (nsR F m 1048576 (z + 1) a3 = none → unpL ((List.range m).map F) = none) := Lib.hid fun h => HNo.out (pR_no3 (HR3.out.symm.trans HE3.out) h)
              have HYes : Hid (∀ (l : List Nat) (a4 : Nat), ¬ m ≤ z → nsR F m 1048576 (z + 1) a3 = some (l, a4) → pR F m rw' a = some ((rw' + (1 + (x : Int)), (y : Int) + 1, plcs (-1) l), a4)) := Lib.hid fun l a4 h1 h2 => pR_yes (HR3.out.symm.trans HE3.out) h1 h2
              clear HNs HR3 HNo3 HNo
              obtain ⟨W2, HW⟩ : ∃ W2 : World, Hid (W2 = wr) := ⟨_, Lib.hid rfl⟩
              rw [← HW.out] at HN3 HB3 HN3b ⊢
              clear HW
              have hBlt : wo.heap.size < W2.heap.size := HN3.out.lt
              obtain ⟨c0, c1, c2, f0, f1, f2⟩ := HN3.out.c
              by_cases hmz : m ≤ z
              · have HZ := Lib.hid (HNo4.out hmz)
                go_wp2_with fail
                go_ret2
                exact .inr ⟨HZ.out, rfl, HN3b.out.alloc (Nat.le_trans hwo HB3.out.size) _⟩
              · obtain ⟨R4, hR4⟩ : ∃ R4, R4 = nsR F m 1048576 (z + 1) a3 := ⟨_, rfl⟩
                have HNs0 := Lib.hid (nsAt_zero F m 1048576 (z + 1) a3)
                rw [← hR4] at HNs0 HNo5
                have HR4 := Lib.hid hR4
                clear hR4 HNo4
                go_wp2_with fail
                have hP0 : W2.heap.size ≤ W2.heap.size := Nat.le_refl _
                go_loopw [5, 14, 15] (fun at' pl i W => ∃ (k4 a4 : Nat) (pre4 : List Nat) (v4 : Value), k4 ≤ z + 1 ∧ i = .int .i64 k4 ∧ at' = .int .i64 a4 ∧ pl = .int .i64 (lastP (-1) pre4) ∧ pre4.length = k4 ∧ (∀ u ∈ pre4, u ≤ 1048576) ∧ a4 ≤ m ∧ NsAt F m 1048576 (z + 1) R4 k4 pre4 a4 ∧ P3 W W2.heap.size (rw' + (1 + (x : Int))) ((y : Int) + 1) v4 ∧ OwnI W (W2.heap.size + 1) v4 (plcs (-1) pre4) ∧ Below W2.heap.size W2 W) (fun _ _ i _ => z + 1 - (intOf i).toNat)
                case atStart => exact ⟨0, a3, [], .slice none 0 0, by omega, rfl, rfl, rfl, rfl, (fun u hu => by cases hu), ha3, HNs0.out, heap_alloc_new W2 _, World.ownsRow_nil _ _ _ _, (Below.refl _ _).alloc (Nat.le_refl _) _⟩
                case round =>
                  obtain ⟨k4, a4, pre4, v4, hk4, rfl, rfl, rfl, hpl, hpb, ha4, hns, hp3, ho4, hb4⟩ := hrel
                  have HNs := Lib.hid hns
                  have HP3 := Lib.hid hp3
                  have HO4 := Lib.hid ho4
                  have HB4 := Lib.hid hb4
                  have HPb := Lib.hid hpb
                  have HN4 := Lib.hid (HN3.out.below hb4 HN3.out.lt)
                  have HBw := Lib.hid (HN3b.out.trans (hb4.mono (Nat.le_trans hwo HB3.out.size)))
                  have hlp := lastP_le pre4 (-1) hpb
                  have hpp := plcs_len (-1) pre4
                  rw [hpl] at hlp hpp
                  clear hns hp3 ho4 hb4 hpb HNs0 c0 c1 c2 f0 f1 f2
                  obtain ⟨c0, c1, c2, f0, f1, f2⟩ := HN4.out.c
                  obtain ⟨d0, d1, d2, g0, g1, g2⟩ := HP3.out.c
                  by_cases hl4 : k4 < z + 1
                  · cases hg : gI F m 8 0 a4 with
                    | none =>
                      have HZ := Lib.hid (HNo5.out (HNs.out.no hl4 hg))
                      have HG : Hid (∀ W, Below w.heap.size w W → Calls Try.prog 14 #[.slice A m d, .int .i64 (a4 : Nat)] W fun e w' => e = .returned (.tuple #[.int .i64 0, .int .i64 (-1)]) ∧ Below W.heap.size W w') := Lib.hid fun W l => get_none (by omega) ha4 hg W (HB.out.below l (Nat.le_refl _))
                      clear hg
                      go_wp2_with (first
                        | (go_at_call 14; (with_reducible refine (HG.out _ HBw.out).mono ?_); rintro e w4 ⟨rfl, l2⟩; have L4 := Lib.hid (HBw.out.trans (l2.mono HBw.out.size)); clear l2))
                      go_ret2
                      exact .inr ⟨HZ.out, rfl, L4.out⟩
                    | some q =>
                      obtain ⟨X, nx⟩ := q
                      have HG : Hid (∀ W, Below w.heap.size w W → Calls Try.prog 14 #[.slice A m d, .int .i64 (a4 : Nat)] W fun e w' => e = .returned (.tuple #[.int .i64 (X : Nat), .int .i64 (nx : Nat)]) ∧ Below W.heap.size W w') := Lib.hid fun W l => get_some (by omega) ha4 hg W (HB.out.below l (Nat.le_refl _))
                      by_cases hX : 1048576 < X
                      · have HZ := Lib.hid (HNo5.out (HNs.out.big hl4 hg hX))
                        clear hg
                        go_wp2_with (first
                          | (go_at_call 14; (with_reducible refine (HG.out _ HBw.out).mono ?_); rintro e w4 ⟨rfl, l2⟩; have L4 := Lib.hid (HBw.out.trans (l2.mono HBw.out.size)); clear l2))
                        go_ret2
                        exact .inr ⟨HZ.out, rfl, L4.out⟩
                      · have HNs2 := Lib.hid (HNs.out.on hl4 hg hX)
                        have hnx := gI_le hg
                        have HSn := Lib.hid (plcs_snoc (-1) pre4 X)
                        have HLs := Lib.hid (lastP_snoc (-1) pre4 X)
                        have HLen : Hid ((pre4 ++ [X]).length = k4 + 1) := Lib.hid (by rw [List.length_append, hpl]; rfl)
                        have HPb2 : Hid (∀ u ∈ pre4 ++ [X], u ≤ 1048576) := Lib.hid fun u hu => by
                          rw [List.mem_append] at hu
                          rcases hu with hu | hu
                          · exact HPb.out u hu
                          · simp at hu; omega
                        clear hg HNs
                        generalize plcs (-1) pre4 = pc4 at *
                        generalize lastP (-1) pre4 = lp at *
                        go_wp2_with (first
                          | (go_at_call 14; (with_reducible refine (HG.out _ HBw.out).mono ?_); rintro e w4 ⟨rfl, l2⟩; have P4 := Lib.hid (HP3.out.below l2 HP3.out.lt); obtain ⟨e0, e1, e2, h0, h1, h2⟩ := P4.out.c; have O4 := Lib.hid (own_belowI HO4.out l2); have B4 := Lib.hid (HB4.out.trans (l2.mono HB4.out.size)); have hs4 : W2.heap.size + 1 ≤ w4.heap.size := P4.out.lt; have hs5 := B4.out.size; clear l2)
                          | (at_builtin; refine wpList_pushI w4 rfl _ _ 42 rfl Try.underlying42 intInfo (W2.heap.size + 1) v4 pc4 rfl O4.out (lp + (1 + (X : Int))) rfl (by omega) hs4 ?_; intro v5 w5 ho5 hg5; obtain ⟨A5, n5, c5, rfl⟩ := own_isI ho5; have O5 := Lib.hid ho5; have P5 : Hid (P3 w5 W2.heap.size (rw' + (1 + (x : Int))) ((y : Int) + 1) v4) := Lib.hid ((hg5.block _ P4.out.lt (fun e => by have := (O4.out.lt _ e.symm).1; omega)).trans P4.out); obtain ⟨j0, j1, j2, i0, i1, i2⟩ := P5.out.c; have B5 := Lib.hid (B4.out.grown hg5 hs5 (fun j hj => by have := (O4.out.lt j hj).1; omega)); clear ho5 hg5))
                        go_roundw
                        case rel =>
                          refine ⟨_, _, _, _, _, _, _, _, _, _, _, _, _, _, _, _, _, _, _, _, _, _, _, _, _, _, _, _, _, _, _, _, _, _, _, _, ?_, rfl⟩
                          exact ⟨k4 + 1, nx, pre4 ++ [X], .slice A5 n5 c5, by omega, by go_num, rfl, by rw [HLs.out], HLen.out, HPb2.out, hnx, HNs2.out, P5.out.set2 _, by rw [HSn.out]; exact own_setI O5.out (Nat.lt_succ_self _), B5.out.setCell (p := ⟨W2.heap.size, 2, none⟩) (Nat.le_refl _) _⟩
                        case measure => simp [intOf]; omega
                  · obtain rfl : k4 = z + 1 := by omega
                    have HE4 := Lib.hid (HNs.out.end_)
                    have HPy := Lib.hid (HYes.out pre4 a4 hmz (HR4.out.symm.trans HE4.out))
                    have HOn2 := Lib.hid (HOn.out _ _ HPy.out)
                    obtain ⟨A4, n4, c4, rfl⟩ := own_isI HO4.out
                    have hn4 : n4 = (plcs (-1) pre4).length := own_lenI HO4.out
                    have hi4 : ∀ u ∈ plcs (-1) pre4, -9223372036854775808 ≤ u ∧ u ≤ 9223372036854775807 := fun u hu => by
                      have := plcs_in pre4 (-1) HPb.out u hu
                      rw [hpl] at this
                      omega
                    have HI4 := Lib.hid (own_ints HO4.out hi4)
                    have HFar : Hid (∀ b o, A4 = some ⟨b, o, none⟩ → wo.heap.size ≤ b) := Lib.hid fun b o e => by
                      subst e
                      have := (HO4.out.lt b (by rfl)).1
                      omega
                    have HNil : Hid (A4 = none → c4 = 0) := Lib.hid (own_nilI HO4.out)
                    have HOW := Lib.hid (ownQ_kept HO.out (HB3.out.trans (HB4.out.mono HB3.out.size)))
                    have HVl : Hid (∀ j, u6.ownBlock = some j → j < wo.heap.size) := Lib.hid fun j e => (HO.out.1.lt j e).2
                    have HVb : Hid (∀ j, u6.ownBlock = some j → w.heap.size ≤ j) := Lib.hid fun j e => (HO.out.1.lt j e).1
                    have HPl := Lib.hid (plP_list (rw' + (1 + (x : Int))) ((y : Int) + 1) A4 c4 (plcs (-1) pre4))
                    clear hi4 HYes HNs hlp hpp
                    generalize plcs (-1) pre4 = pc4 at *
                    subst hn4
                    go_wp2_with (first
                      | (at_builtin; refine wpList_pushQ 44 wr rfl _ _ 27 rfl Try.underlying27 pstInfo2 w.heap.size u6 k Q rfl HOW.out ⟨rw' + (1 + (x : Int)), (y : Int) + 1, A4, pc4.length, c4, fun i => pc4.getD i 0⟩ rfl ⟨HI4.out, by unfold In64; dsimp only; omega, by unfold In64; dsimp only; omega, HNil.out, fun hn b o e e2 => by have h1 := HVl.out b e2.symm; have h2 := HFar.out b o e; omega⟩ (by omega) (by have := HBw.out.size; omega) ?_; intro v6 w6 ho6 hg6; have O6 := Lib.hid ho6; have B6 := Lib.hid (HBw.out.grown hg6 HBw.out.size (fun j hj => HVb.out j hj)); clear ho6 hg6))
                    go_roundw
                    case rel => exact ⟨k + 1, a4, rw' + (1 + (x : Int)), _, _, by omega, by go_num, rfl, rfl, ha4, by omega, by push_cast; omega, HOn2.out, O6.out, by rw [fromD_put, HPre.out, HPl.out], B6.out⟩
                    case measure => simp [intOf]; omega
        · obtain rfl : k = c := by omega
          have HRe := Lib.hid (HPs.out.end_)
          have HRf : Hid (rfL F m = some (fromD Q 0 k)) := Lib.hid (by rw [HR.out, HRe.out, HPre.out]; rfl)
          have HSo := Lib.hid (rf_some HX.out HRf.out)
          obtain ⟨A', c', rfl, hps, _⟩ := ownQ_psts HO.out
          have HPq := Lib.hid hps
          have HBy := Lib.hid (HB.out.below HN.out (Nat.le_refl _))
          have HPk := Lib.hid (refPackX_any (c := c') wr hps)
          have H256 := Lib.hid (packX_256 k Q)
          clear hps HO HRn HNone HPre HPs HR
          cases hr : rightB k Q with
          | false =>
            have HZ := Lib.hid (HSo.out.2 (fun z => by rw [hr] at z; cases z.1))
            rw [(packX_no hr).2] at HPk
            clear hr HSo
            generalize packX k Q = ys at *
            generalize ys.length = k1 at *
            go_wp2_with (first
              | (go_at_call 15; (with_reducible refine HPk.out.mono ?_); rintro e w4 ⟨A1, c1, rfl, o1, l1⟩; have L1 := Lib.hid (HN.out.trans (l1.mono hws)); clear o1 l1))
            go_ret2
            exact .inr ⟨HZ.out, rfl, L1.out⟩
          | true =>
            rw [(packX_yes hr).2] at HPk
            rw [(packX_yes hr).1] at HPk H256
            by_cases hp : packL k Q = (List.range m).map F
            · have HZ := Lib.hid (HSo.out.1 ⟨hr, hp⟩)
              rw [hp] at HPk H256
              clear hr hp HSo
              obtain ⟨k1, hk1⟩ : ∃ k1, k1 = ((List.range m).map F).length := ⟨_, rfl⟩
              rw [← hk1] at HPk
              clear hk1
              go_wp2_with (first
                | (go_at_call 15; (with_reducible refine HPk.out.mono ?_); rintro e w4 ⟨A1, c1, rfl, o1, l1⟩; have L1 := Lib.hid (HN.out.trans (l1.mono hws)); have hcv1 := conv_own o1 H256.out; have hcv2 := conv_any d (HBy.out.below l1 (Nat.le_refl _)); rw [strF_S] at hcv2; have P1 := Lib.hid (HPq.out.below l1 (Nat.le_refl _)); generalize strU ((List.range m).map F) = sx at *; clear o1 l1))
              go_ret2
              refine .inl ⟨_, A', c', Q, HZ.out, ?_, ?_, ?_, L1.out⟩
              · rw [fromD_len]; rfl
              · rw [fromD_len]; exact P1.out
              · rw [fromD_len]
            · have HZ := Lib.hid (HSo.out.2 (fun z => hp z.2))
              have hne : strU (packL k Q) ≠ strU ((List.range m).map F) := fun e => hp (strU_inj H256.out HX.out e)
              clear hr hp HSo
              generalize packL k Q = ys at *
              obtain ⟨k1, hk1⟩ : ∃ k1, k1 = ys.length := ⟨_, rfl⟩
              rw [← hk1] at HPk
              clear hk1
              generalize hsy : strU ys = sy at *
              generalize hsx : strU ((List.range m).map F) = sx at *
              have hne1 : (sy == sx) = false := str_ne hne
              have hne2 : (sy != sx) = true := by unfold bne; rw [hne1]; rfl
              have hne3 : (sy.toList == sx.toList) = false := str_ne2 hne
              have HSy := Lib.hid hsy
              have HSx := Lib.hid hsx
              clear hsy hsx hne
              go_wp2_with (first
                | (go_at_call 15; (with_reducible refine HPk.out.mono ?_); rintro e w4 ⟨A1, c1, rfl, o1, l1⟩; have L1 := Lib.hid (HN.out.trans (l1.mono hws)); have hcv1 := conv_own o1 H256.out; rw [HSy.out] at hcv1; have hcv2 := conv_any d (HBy.out.below l1 (Nat.le_refl _)); rw [strF_S, HSx.out] at hcv2; clear o1 l1))
              go_ret2
              exact .inr ⟨HZ.out, rfl, L1.out⟩
end Go.Proofs.Ythpfaaindkkpcaa
