/- order.Prefix: the least bytes above all that begin with some. -/
import Derived.Test.YtpmhefdalhohdaaDoorOText
namespace Go.Proofs.YtpmhefdalhohdaaDoor
open Go.RowKit
set_option linter.unusedVariables false

/-- How many bytes are left if those that are 255 are taken from the end. -/
def stripN (l : List UInt8) : Nat → Nat
  | 0 => 0
  | n + 1 => if lF l n = 255 then stripN l n else n + 1
theorem stripN_le (l : List UInt8) : ∀ n, stripN l n ≤ n
  | 0 => Nat.le_refl _
  | n + 1 => by rw [stripN]; split
                · have := stripN_le l n; omega
                · exact Nat.le_refl _
def prefixL (l : List UInt8) : List UInt8 :=
  if stripN l l.length = 0 then [] else l.take (stripN l l.length - 1) ++ [UInt8.ofNat (lF l (stripN l l.length - 1) + 1)]
theorem stripN_last (l : List UInt8) : ∀ n, stripN l n ≠ 0 → lF l (stripN l n - 1) ≠ 255
  | 0, h => absurd rfl h
  | n + 1, h => by
    rw [stripN] at h ⊢
    split
    · rename_i h2
      rw [if_pos h2] at h
      exact stripN_last l n h
    · rename_i h2
      simpa using h2
theorem own_set {w : World} {base g n c i : Nat} {F : Nat → Nat} {v : Nat} (h : OwnB w base (some ⟨g, 0, none⟩) n c F) (hi : i < n) (hv : v < 256) : OwnB (w.setCell ⟨g, i, none⟩ (.int .u8 v)) base (some ⟨g, 0, none⟩) n c (fun j => if j = i then v else F j) := by
  obtain ⟨⟨hl, h2⟩, h3, h4⟩ := h
  rcases h2 with ⟨h2, _⟩ | ⟨g', cap, cur, e, hb, hg, hn, hc, hs, ht⟩
  · cases h2
  · injection e with e e2 e3
    injection e with e
    injection e with e
    subst e e3
    refine ⟨⟨by simp [cellsOfF], .inr ⟨g, c, cur.setIfInBounds i (.int .u8 v), rfl, hb, ?_, hn, hc, by simpa using hs, ?_⟩⟩, fun j hj => ?_, h4⟩
    · simp [World.setCell, Array.getElem?_modify, hg]
    · apply List.ext_getElem?
      intro j
      have hj := congrArg (fun l => l[j]?) ht
      simp only [List.getElem?_take] at hj ⊢
      unfold cellsOfF at hj ⊢
      rw [Nat.mul_one] at hj hs ⊢
      by_cases q : j < n
      · rw [if_pos q] at hj ⊢
        rw [List.getElem?_map, List.getElem?_range q] at hj ⊢
        rw [Array.getElem?_toList] at hj ⊢
        by_cases qi : i = j
        · subst qi
          rw [Array.getElem?_setIfInBounds_self_of_lt (by omega)]
          simp
        · rw [Array.getElem?_setIfInBounds_ne qi, hj]
          simp [show ¬ j = i from fun e => qi e.symm]
      · rw [if_neg q, List.getElem?_eq_none (by simpa using q)]
    · show (if j = i then v else F j) < 256
      split
      · exact hv
      · exact h3 j hj
theorem prefix_fn (l : List UInt8) (j x i : Nat) (hj : j < l.length) (hx : x < 255) (hi : i < j + 1) : (if i = j then x + 1 else lF l i) = lF (l.take j ++ [UInt8.ofNat (x + 1)]) i := by
  unfold lF
  simp only [List.getD_eq_getElem?_getD]
  by_cases q : i = j
  · subst q
    rw [if_pos rfl, List.getElem?_append_right (by rw [List.length_take]; exact Nat.min_le_left _ _), List.length_take, Nat.min_eq_left (by omega), Nat.sub_self]
    simp
    omega
  · rw [if_neg q, List.getElem?_append_left (by rw [List.length_take, Nat.min_eq_left (by omega)]; omega), List.getElem?_take, if_pos (by omega)]
/-- What Prefix leaves: bytes of its own. -/
def PrefP (l : List UInt8) (w : World) (e : Ending) (w' : World) : Prop := ∃ v, e = .returned v ∧ OwnL w' w.heap.size v (prefixL l) ∧ Below w.heap.size w w'
set_option maxHeartbeats 4000000 in
set_option maxRecDepth 100000 in
theorem Prefix_any (A : Option Addr) (c : Nat) (l : List UInt8) (w : World) (hb : Bytes w A l.length (lF l)) (hl : l.length ≤ 1000000) (hc : l.length ≤ c ∧ c ≤ 9223372036854775807) :
    Calls Tryd.prog 21 #[.slice A l.length c] w (PrefP l w) := by
  have HB := Lib.hid hb
  clear hb
  obtain ⟨n, hn⟩ : ∃ n, n = l.length := ⟨_, rfl⟩
  have HN := Lib.hid hn
  rw [← hn] at hl hc HB ⊢
  clear hn
  go_enter Tryd.func21, Tryd.ntmps21
  go_wp2_with fail
  go_loopw [3] (fun i wr => wr = w ∧ ∃ k : Nat, k ≤ n ∧ i = .int .i64 k ∧ stripN l k = stripN l n) (fun i _ => (intOf i).toNat)
  case atStart => exact ⟨rfl, n, Nat.le_refl _, rfl, rfl⟩
  case round =>
    obtain ⟨rfl, k, hk, rfl, hs⟩ := hrel
    have HS := Lib.hid hs
    clear hs
    rcases Nat.eq_zero_or_pos k with h0 | h0
    · subst h0
      have HE := Lib.hid (show prefixL l = [] from by unfold prefixL; rw [← HN.out, ← HS.out]; rfl)
      go_wp2_with fail
      go_ret
      exact ⟨_, rfl, by rw [HE.out]; exact OwnL.nil _ _, Below.refl _ _⟩
    · obtain ⟨j, rfl⟩ : ∃ j, k = j + 1 := ⟨k - 1, by omega⟩
      obtain ⟨b, o, rfl, hcell⟩ := HB.out.2.2 (by omega)
      have hj := hcell j (by omega)
      have HCC := Lib.hid hcell
      have hq : ((j + 1 : Nat) : Int) - 1 = (j : Int) := by omega
      have hq2 : j < n := by omega
      clear hcell
      obtain ⟨x, hx⟩ : ∃ x, x = lF l j := ⟨_, rfl⟩
      have HX := Lib.hid hx
      have hxl : x < 256 := by rw [hx]; exact lF_lt l j
      rw [← hx] at hj
      clear hx
      by_cases h5 : x = 255
      · subst h5
        have HE := Lib.hid (show stripN l j = stripN l n from by have := HS.out; rw [stripN, if_pos HX.out.symm] at this; exact this)
        go_wp2_with fail
        go_roundw
        case rel => exact ⟨trivial, j, by omega, by go_num, HE.out⟩
        case measure => simp [intOf]
      · have h6 : ((x : Int) == 255) = false := by simp; omega
        have HE := Lib.hid (show stripN l n = j + 1 from by have := HS.out; rw [stripN, if_neg (by rw [← HX.out]; exact h5)] at this; exact this.symm)
        have HC := Lib.hid (clone_any b o (j + 1) c (lF l) wr (HB.out.head (j + 1) hk) (by omega))
        have h7 : x < 255 := by omega
        clear h5
        go_wp2_with fail
        refine HC.out.mono ?_
        rintro e w2 ⟨B, d, rfl, ob, l2⟩
        obtain ⟨g, rfl, hgb, hgc⟩ := ob.at_ (by omega)
        have c1 : w2.cell? ⟨g, j, none⟩ = some (.int .u8 (x : Int)) := by rw [HX.out]; exact hgc j (by omega)
        have f1 : w2.frozen? ⟨g, j, none⟩ = false := by
          obtain ⟨⟨_, ⟨e, _⟩ | ⟨g', cap, cur, e, _, hh, _⟩⟩, _⟩ := ob
          · cases e
          · injection e with e
            injection e with e
            injection e with e
            subst e
            simp [World.frozen?, hh]
        have OB := Lib.hid ob
        have L2 := Lib.hid l2
        have GB := Lib.hid hgb
        clear ob l2 hgb hgc
        go_wp2_with fail
        go_ret
        have hPL : prefixL l = l.take j ++ [UInt8.ofNat (x + 1)] := by unfold prefixL; rw [← HN.out, HE.out, if_neg (by omega), Nat.add_sub_cancel, HX.out]
        have hlen : (l.take j ++ [UInt8.ofNat (x + 1)]).length = j + 1 := by
          rw [List.length_append, List.length_take, ← HN.out]; simp; omega
        refine ⟨_, rfl, ?_, L2.out.setCell (p := ⟨g, j, none⟩) GB.out _⟩
        rw [hPL]
        refine ⟨some ⟨g, 0, none⟩, d, by rw [hlen]; rfl, ?_⟩
        rw [hlen]
        have := own_set (i := j) (v := x + 1) OB.out (by omega) (by omega)
        exact OwnB.congr this fun i hi => prefix_fn l j x i (by rw [← HN.out]; omega) h7 hi
end Go.Proofs.YtpmhefdalhohdaaDoor
