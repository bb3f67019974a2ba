/- The contract of Flush. -/
import Derived.Test.YtmeijienfdefjaaDChoose
namespace Go.Proofs.Ytmeijienfdefjaa
open Go.RowKit

theorem flush_down [Spare] (w : World) (base : Nat) (M : DM) (S : DS) (h : Dsk w base M S) (hd : S.down = true) :
    Calls Try.prog 52 #[.pointer (some ⟨M.p, 0, none⟩)] w fun e w' => e = .returned (.int .i64 4) ∧ w = w' := by
  have hc5 := h.c5
  rw [hd] at hc5
  go_enter Try.func52, Try.ntmps52
  go_wp2
  go_ret
  exact ⟨rfl, rfl⟩

/-- What is fast after the first j loose writes. -/
def fastTo (f : Nat → Nat → Nat) (l : List (Nat × (Nat → Nat))) : Nat → Nat → Nat := l.foldl (fun f x => upd f x.1 x.2) f
def flushS (S : DS) : DS := { strikeS S with fast := fastTo S.fast S.loose, loose := [] }

theorem flush_no [Spare] (w : World) (base : Nat) (M : DM) (S : DS) (h : Dsk w base M S) (hd : S.down = false) (hs : strikeI S = 4) :
    Calls Try.prog 52 #[.pointer (some ⟨M.p, 0, none⟩)] w fun e w' => e = .returned (.int .i64 4) ∧ Dsk w' base M (strikeS S) ∧ Turns base M w w' ∧ KeepB base w w' := by
  have hc5 := h.c5
  rw [hd] at hc5
  have R := Lib.hid hs
  clear hs
  go_enter Try.func52, Try.ntmps52
  go_wp2_with fail
  refine (strike_any w base M S h).mono ?_
  rintro e w1 ⟨rfl, d1, t1, k1⟩
  rw [R.out]
  have D1 := Lib.hid d1
  have T1 := Lib.hid t1
  have K1 := Lib.hid k1
  clear d1 t1 k1
  go_wp2
  go_ret
  exact ⟨rfl, D1.out, T1.out, K1.out⟩

theorem strikeS_loose (S : DS) : (strikeS S).loose = S.loose := by unfold strikeS; split <;> (try split) <;> rfl
theorem strikeS_N (S : DS) : (strikeS S).N = S.N := by unfold strikeS; split <;> (try split) <;> rfl
theorem strikeS_size (S : DS) : (strikeS S).size = S.size := by unfold strikeS; split <;> (try split) <;> rfl
theorem strikeS_fast (S : DS) : (strikeS S).fast = S.fast := by unfold strikeS; split <;> (try split) <;> rfl
theorem strikeS_now (S : DS) : (strikeS S).now = S.now := by unfold strikeS; split <;> (try split) <;> rfl

/-- One loose write in memory. -/
theorem looseCells_get : ∀ (l : List (Nat × (Nat → Nat))) (vs : List Value) (j : Nat) (x : Nat × (Nat → Nat)) (v : Value), l[j]? = some x → vs[j]? = some v → (looseCells l vs)[j * 2]? = some (.int .i64 (x.1 : Int)) ∧ (looseCells l vs)[j * 2 + 1]? = some v
  | [], _, j, x, v, h, _ => by simp at h
  | _ :: _, [], j, x, v, _, h => by simp at h
  | y :: r, u :: vs, 0, x, v, h, k => by
    simp at h k
    subst h k
    exact ⟨rfl, rfl⟩
  | y :: r, u :: vs, j + 1, x, v, h, k => by
    have := looseCells_get r vs j x v (by simpa using h) (by simpa using k)
    rw [show (j + 1) * 2 = j * 2 + 1 + 1 by omega, show (j * 2 + 1 + 1 + 1) = (j * 2 + 1) + 1 + 1 by omega]
    exact this
theorem SecV.isSlice [Spare] {w : World} {base size : Nat} {v : Value} {F : Nat → Nat} (h : SecV w base size v F) : ∃ A n c, v = .slice A n c := by
  rcases h.2 with ⟨h2, _⟩ | ⟨g, c, _, h2, _⟩
  · exact ⟨_, _, _, h2⟩
  · exact ⟨_, _, _, h2⟩
theorem Dsk.looseAt [Spare] {w : World} {base : Nat} {M : DM} {S : DS} (h : Dsk w base M S) (j : Nat) (hj : j < S.loose.length) :
    ∃ g c x v, M.vl = .slice (some ⟨g, 0, none⟩) S.loose.length c ∧ base ≤ g ∧ g < w.heap.size ∧ S.loose[j]? = some x ∧ w.cell? ⟨g, j * 2, none⟩ = some (.int .i64 (x.1 : Int)) ∧ w.cell? ⟨g, j * 2 + 1, none⟩ = some v ∧ x.1 < S.N ∧ SecN w base S.size v x.2 ∧ ∀ i, w.frozen? ⟨g, i, none⟩ = false := by
  obtain ⟨vs, l1, l2, l3⟩ := h.lo
  rcases l2.2 with ⟨_, h3⟩ | ⟨g, c, cur, a1, a2, a3, a4, a5, a6, a7⟩
  · omega
  · have e1 := List.getElem?_eq_getElem hj
    have e2 := List.getElem?_eq_getElem (show j < vs.length by omega)
    obtain ⟨b1, b2⟩ := looseCells_get _ _ _ _ _ e1 e2
    have f := fun i => cell_of_row w g i _ _ _ a3
    have tk : ∀ i, i < S.loose.length * 2 → (looseCells S.loose vs)[i]? = cur[i]? := fun i hi => by
      rw [← a7, List.getElem?_take_of_lt hi, Array.getElem?_toList]
    have q := l3 j _ _ e2 e1
    exact ⟨g, c, _, _, a1, a2, (Array.getElem?_eq_some_iff.1 a3).1, e1, by rw [f, ← tk _ (by omega)]; exact b1, by rw [f, ← tk _ (by omega)]; exact b2, q.1, q.2, fun i => by simp [World.frozen?, a3]⟩

/-- The loose writes go. -/
theorem Dsk.noLoose [Spare] {w : World} {base : Nat} {M : DM} {S : DS} (h : Dsk w base M S) : Dsk (w.setCell ⟨M.p, 3, none⟩ (.slice none 0 0)) base { M with vl := .slice none 0 0 } { S with loose := [] } := by
  obtain ⟨V, v1, v2⟩ := h.vf
  obtain ⟨U, u1, u2⟩ := h.vn
  have hb : KeepB base w (w.setCell ⟨M.p, 3, none⟩ (.slice none 0 0)) := keepB_store h.hp (by decide)
  have nf : M.bf ≠ M.p := by obtain ⟨c, hc, _⟩ := v1; exact type_ne hc h.hp (by decide)
  have nn : M.bn ≠ M.p := by obtain ⟨c, hc, _⟩ := u1; exact type_ne hc h.hp (by decide)
  refine ⟨?_, h.bp, ⟨V, v1.setOther nf _, fun j hj => (v2 j hj).keep hb⟩, ⟨U, u1.setOther nn _, fun j hj => (u2 j hj).keep hb⟩, h.bfn, h.bbf, h.bbn, ⟨[], rfl, ⟨rfl, .inl ⟨rfl, rfl⟩⟩, fun j v x hj _ => by simp at hj⟩, h.hN, h.hS, h.hA, by simp, h.hC, fun g hg => h.hE g (by rw [size_set] at hg; exact hg)⟩
  show (w.setCell ⟨M.p, 3, none⟩ (.slice none 0 0)).heap[M.p]? = _
  rw [heap_store w _ _ _ _ _ h.hp]
  rfl

theorem flush_ok [Spare] (w : World) (base : Nat) (M : DM) (S : DS) (h : Dsk w base M S) (hd : S.down = false) (hs : strikeI S = 0) :
    Calls Try.prog 52 #[.pointer (some ⟨M.p, 0, none⟩)] w fun e w' => e = .returned (.int .i64 0) ∧ Dsk w' base { M with vl := .slice none 0 0 } (flushS S) ∧ Turns base M w w' ∧ KeepB base w w' := by
  have hc5 := h.c5
  rw [hd] at hc5
  have R := Lib.hid hs
  clear hs
  go_enter Try.func52, Try.ntmps52
  go_wp2_with fail
  refine (strike_any w base M S h).mono ?_
  rintro e w1 ⟨rfl, d1, t1, k1⟩
  rw [R.out]
  have hc3 := d1.c3
  obtain ⟨n, c, A, hv⟩ : ∃ n c A, M.vl = .slice A n c ∧ n = S.loose.length := by
    obtain ⟨vs, l1, l2, l3⟩ := d1.lo
    rw [strikeS_loose] at l1 l2
    rcases l2.2 with ⟨h2, h3⟩ | ⟨g, cap, cur, a1, a2, a3, a4⟩
    · exact ⟨0, 0, none, h2, by omega⟩
    · exact ⟨_, _, _, a1, rfl⟩
  rw [hv.1] at hc3
  obtain ⟨hv1, hv2⟩ := hv
  have D1 := Lib.hid d1
  have T1 := Lib.hid t1
  have K1 := Lib.hid k1
  have hL := h.hL
  have hLL := strikeS_loose S
  clear d1 t1 k1
  subst hv2
  go_wp2
  go_loopw [21] (fun i wr => ∃ k : Nat, k ≤ S.loose.length ∧ i = .int .i64 k ∧ Dsk wr base M { strikeS S with fast := fastTo S.fast (S.loose.take k) } ∧ Turns base M w wr ∧ KeepB base w wr) (fun i _ => S.loose.length - (intOf i).toNat)
  case atStart =>
    refine ⟨0, Nat.zero_le _, rfl, ?_, T1.out, K1.out⟩
    have := D1.out
    rw [List.take_zero, show fastTo S.fast [] = (strikeS S).fast from (strikeS_fast S).symm]
    exact this
  case round =>
    obtain ⟨k, hk, rfl, hD, hT, hK⟩ := hrel
    by_cases hlt : k < S.loose.length
    · obtain ⟨g, c', x, v, e1, e2, e3, e4, e5, e6, e7, e8, e0⟩ := hD.looseAt k (by show k < (strikeS S).loose.length; rw [strikeS_loose]; exact hlt)
      rw [hv1] at e1
      injection e1 with e1 q1 q2
      subst e1
      clear q1 q2
      obtain ⟨a1, a2, a3, rfl⟩ := e8.1.isSlice
      have y1 := hD.c1
      have yf1 := hD.frozen 1
      have ltp : M.p < wr.heap.size := (Array.getElem?_eq_some_iff.1 hD.hp).1
      obtain ⟨V, v1, _⟩ := id hD.vf
      have ltf : M.bf < wr.heap.size := v1.lt
      have z1 := v1.cell e7
      have z2 := v1.frozen x.1
      have e7' : x.1 < S.N := by rw [← strikeS_N]; exact e7
      rw [strikeS_N] at y1
      have hN := h.hN
      have f5 : wr.frozen? ⟨g, k * 2, none⟩ = false ∧ wr.frozen? ⟨g, k * 2 + 1, none⟩ = false := ⟨e0 _, e0 _⟩
      obtain ⟨D3, k3⟩ := hD.setFast (k := x.1) e8.1
      have t3 : Turns base M wr (wr.setCell ⟨M.bf, x.1, none⟩ (.slice a1 a2 a3)) := ⟨rfl, rfl, rfl, by simp [World.setCell], fun j _ _ hj _ _ => Below.heap_setCell _ ⟨M.bf, x.1, none⟩ _ j hj⟩
      have D4 : Dsk (wr.setCell ⟨M.bf, x.1, none⟩ (.slice a1 a2 a3)) base M { strikeS S with fast := fastTo S.fast (S.loose.take (k + 1)) } := by
        have q : fastTo S.fast (S.loose.take (k + 1)) = upd (fastTo S.fast (S.loose.take k)) x.1 x.2 := by
          have e4' : S.loose[k]? = some x := by rw [← hLL]; exact e4
          rw [List.take_add_one, e4']
          unfold fastTo
          rw [List.foldl_append]
          rfl
        rw [q]
        exact D3
      have lW : Below _ _ (((wr.setCell ⟨M.bf, x.1, none⟩ (.slice a1 a2 a3)).alloc (.cells #[.int .i64 (x.1 : Int), .slice a1 a2 a3] 111)).drew) := ((Below.refl (wr.setCell ⟨M.bf, x.1, none⟩ (.slice a1 a2 a3)).heap.size (wr.setCell ⟨M.bf, x.1, none⟩ (.slice a1 a2 a3))).alloc (Nat.le_refl _) _).drew
      have DD := Lib.hid (D4.below lW)
      have TT := Lib.hid (hT.trans (t3.trans (Turns.of_below lW)))
      have KK := Lib.hid (hK.trans (k3.trans (keepB_below (base := base) lW)))
      clear D3 D4 t3 k3 hD hT hK lW v1 e8
      go_wp2
      go_region
      go_wp2
      go_roundw
      case rel =>
        exact ⟨k + 1, by omega, by go_num, DD.out, TT.out, KK.out⟩
      case measure => simp [intOf]; omega
    · obtain rfl : k = S.loose.length := by omega
      rw [List.take_length] at hD
      have y3 := hD.c3
      have f3 := hD.frozen 3
      have D2 := Lib.hid hD.noLoose
      have t2 : Turns base M w _ := hT.trans (Turns.store wr 3 (.slice none 0 0))
      have k2 := hK.trans (keepB_store (i := 3) (v := .slice none 0 0) hD.hp (by decide))
      have T2 := Lib.hid t2
      have K2 := Lib.hid k2
      clear t2 k2 hT hK hD
      go_wp2
      go_ret
      exact ⟨rfl, D2.out, T2.out, K2.out⟩
end Go.Proofs.Ytmeijienfdefjaa
