/- The document's disk as it lies in memory; its small calls. -/
import Derived.Test.YtpajedofffnhdaaDCopies
import Derived.Lib.Strings
import Derived.Lib.IndexBytes
import Derived.Deep.CutRange
namespace Go.Proofs.Ytpajedofffnhdaa
open Go.RowKit
set_option linter.unusedVariables false

theorem strF_size (F : Nat → Nat) (n : Nat) : (strF F n).size = n := by unfold strF; rw [strOfNums_size]; simp
theorem ba_ext {a b : ByteArray} (h : a.data.toList = b.data.toList) : a = b := by
  obtain ⟨⟨x⟩⟩ := a
  obtain ⟨⟨y⟩⟩ := b
  simp at h
  rw [h]
/-- First bytes of one upon the rest of the other. -/
theorem strF_splice (F G : Nat → Nat) (k n : Nat) (hk : k ≤ n) : (strF G n).extract 0 k ++ (strF F n).extract k n = strF (copyF F 0 k G) n := by
  apply ba_ext
  rw [ByteArray.data_append, Array.toList_append, Lib.extract_data, Lib.extract_data, strF_list, strF_list, strF_list]
  apply List.ext_getElem?
  intro i
  simp only [List.drop_zero, Nat.sub_zero]
  rcases Nat.lt_or_ge i k with h1 | h1
  · rw [List.getElem?_append_left (by simp; omega), List.getElem?_take_of_lt h1, List.getElem?_map, List.getElem?_map, List.getElem?_range (by omega)]
    simp only [Option.map_some]
    rw [copyF_in (by omega) (by omega), Nat.sub_zero]
  · rcases Nat.lt_or_ge i n with h2 | h2
    · rw [List.getElem?_append_right (by simp; omega)]
      have e : i - (List.take k (List.map (fun i => UInt8.ofNat (G i)) (List.range n))).length = i - k := by simp; omega
      rw [e, List.getElem?_take_of_lt (by omega), List.getElem?_drop, List.getElem?_map, List.getElem?_map, show k + (i - k) = i by omega, List.getElem?_range h2]
      simp only [Option.map_some]
      rw [copyF_out (by omega)]
    · rw [List.getElem?_eq_none (by simp; omega), List.getElem?_eq_none (by simp; omega)]

/-- Loose writes as the document's rows have them. -/
def rCells (size : Nat) : List (Nat × (Nat → Nat)) → List Value
  | [] => []
  | x :: r => .int .i64 (x.1 : Int) :: .string (strF x.2 size) :: rCells size r
theorem rCells_get (size : Nat) : ∀ (l : List (Nat × (Nat → Nat))) (j : Nat) (x : Nat × (Nat → Nat)), l[j]? = some x → (rCells size l)[j * 2]? = some (.int .i64 (x.1 : Int)) ∧ (rCells size l)[j * 2 + 1]? = some (.string (strF x.2 size))
  | [], j, x, h => by simp at h
  | y :: r, 0, x, h => by
    simp at h
    subst h
    exact ⟨rfl, rfl⟩
  | y :: r, j + 1, x, h => by
    obtain ⟨h1, h2⟩ := rCells_get size r j x (by simpa using h)
    have e1 : (j + 1) * 2 = j * 2 + 1 + 1 := by omega
    refine ⟨?_, ?_⟩
    · rw [e1]; exact h1
    · rw [e1]; exact h2
theorem rCells_len (size : Nat) : ∀ l : List (Nat × (Nat → Nat)), (rCells size l).length = l.length * 2
  | [] => rfl
  | x :: r => by
    have := rCells_len size r
    simp only [rCells, List.length_cons, this]
    omega
theorem rCells_snoc (size : Nat) (x : Nat × (Nat → Nat)) : ∀ l : List (Nat × (Nat → Nat)), rCells size (l ++ [x]) = rCells size l ++ [.int .i64 (x.1 : Int), .string (strF x.2 size)]
  | [] => rfl
  | y :: r => by simp only [List.cons_append, rCells, rCells_snoc size x r]
theorem rCells_one (size : Nat) : ∀ (l : List (Nat × (Nat → Nat))) (u : Value), u ∈ rCells size l → u.oneCell' = true
  | [], u, h => by cases h
  | y :: r, u, h => by
    rcases List.mem_cons.1 h with rfl | h
    · rfl
    · rcases List.mem_cons.1 h with rfl | h
      · rfl
      · exact rCells_one size r u h
/-- Where the document's two lists lie. -/
structure RM where
  g : Nat
  c : Nat
  A : Option Addr
  d : Nat
/-- The document's disk: its two lists. -/
def RFast (w : World) (S : DS) (R : RM) : Prop := S.N ≤ R.c ∧ R.c ≤ 9223372036854775807 ∧ ∃ cs, w.heap[R.g]? = some (.cells cs 9 (0, 0)) ∧ ∀ i, i < S.N → cs[i]? = some (.string (strF (S.fast i) S.size))
def RLoose (w : World) (S : DS) (R : RM) : Prop := (R.A = none ∧ R.d = 0 ∧ S.loose = []) ∨
  ∃ g, R.A = some ⟨g, 0, none⟩ ∧ S.loose.length ≤ R.d ∧ R.d ≤ 9223372036854775807 ∧ ∃ cs, w.heap[g]? = some (.cells cs 71 (0, 0)) ∧ (∀ (j : Nat) (u : Value), (rCells S.size S.loose)[j]? = some u → cs[j]? = some u) ∧ ∀ x ∈ S.loose, x.1 < S.N
def RCells (S : DS) (R : RM) : Array Value := #[.int .i64 (S.N : Int), .int .i64 (S.size : Int), .slice (some ⟨R.g, 0, none⟩) S.N R.c, .slice R.A S.loose.length R.d, .int .i64 (S.armed : Int), .bool S.down]
structure RD (w : World) (S : DS) (R : RM) : Prop where
  f : RFast w S R
  l : RLoose w S R
  hN : 1 ≤ S.N ∧ S.N ≤ 1048576
  hS : 64 ≤ S.size ∧ S.size ≤ 4096
  hA : S.armed ≤ 9223372036854775807
  hL : S.loose.length ≤ 1000000
section
variable {w w' : World} {S S' : DS} {R : RM}
theorem RD.below (h : RD w S R) (l : Below w.heap.size w w') : RD w' S R := by
  obtain ⟨h2, h3, cs, h4, h5⟩ := h.f
  refine ⟨⟨h2, h3, cs, (l.block _ (Array.getElem?_eq_some_iff.1 h4).1).trans h4, h5⟩, ?_, h.hN, h.hS, h.hA, h.hL⟩
  rcases h.l with q | ⟨g, q1, q2, q3, cs, q4, q5⟩
  · exact .inl q
  · exact .inr ⟨g, q1, q2, q3, cs, (l.block g (Array.getElem?_eq_some_iff.1 q4).1).trans q4, q5⟩
/-- What the program's disk does leaves the document's as it is. -/
theorem RD.turns [Spare] {base : Nat} {M : DM} {T : DS} (h : RD w S R) (d : Dsk w base M T) (t : Turns base M w w') : RD w' S R := by
  obtain ⟨V, ⟨c1, v1, _⟩, _⟩ := id d.vf
  obtain ⟨U, ⟨c2, u1, _⟩, _⟩ := id d.vn
  obtain ⟨vs, _, l2, _⟩ := id d.lo
  have own : ∀ {j : Nat}, M.vl.ownBlock = some j → ∃ cs, w.heap[j]? = some (.cells cs 68 (0, 0)) := fun {j} e => by
    rcases l2.2 with ⟨hv, _⟩ | ⟨g, cap, cur, hv, _, hh, _⟩
    · rw [hv] at e; cases e
    · rw [hv] at e
      simp only [Value.ownBlock, Option.some.injEq] at e
      subst e
      exact ⟨cur, hh⟩
  have kept : ∀ {g : Nat} {cs : Array Value} {t' : TypeId}, w.heap[g]? = some (.cells cs t' (0, 0)) → t' ≠ 64 → t' ≠ 41 → t' ≠ 68 → w'.heap[g]? = some (.cells cs t' (0, 0)) := fun {g cs t'} e n1 n2 n3 =>
    (t.block g (Array.getElem?_eq_some_iff.1 e).1 (type_ne e d.hp n1) (type_ne e v1 n2) (type_ne e u1 n2) (fun q => by obtain ⟨cs', q⟩ := own q; exact type_ne e q n3 rfl)).trans e
  obtain ⟨h2, h3, cs, h4, h5⟩ := h.f
  refine ⟨⟨h2, h3, cs, kept h4 (by decide) (by decide) (by decide), h5⟩, ?_, h.hN, h.hS, h.hA, h.hL⟩
  rcases h.l with q | ⟨g, q1, q2, q3, cs, q4, q5⟩
  · exact .inl q
  · exact .inr ⟨g, q1, q2, q3, cs, kept q4 (by decide) (by decide) (by decide), q5⟩
theorem RD.same (h : RD w S R) (S' : DS) (e1 : S'.N = S.N) (e2 : S'.size = S.size) (e3 : S'.fast = S.fast) (e4 : S'.loose = S.loose) (hA : S'.armed ≤ 9223372036854775807) : RD w S' R := by
  obtain ⟨a1, a2, a3, a4, a5, a6, a7⟩ := S
  obtain ⟨b1, b2, b3, b4, b5, b6, b7⟩ := S'
  simp only at e1 e2 e3 e4
  subst e1 e2 e3 e4
  exact ⟨h.f, h.l, h.hN, h.hS, hA, h.hL⟩
theorem RD.strike (h : RD w S R) : RD w (strikeS S) R := by
  refine h.same _ (strikeS_N S) (strikeS_size S) (strikeS_fast S) (strikeS_loose S) ?_
  have := h.hA
  unfold strikeS
  split
  · exact this
  · split
    · show (0 : Nat) ≤ _; omega
    · show S.armed - 1 ≤ _; omega
end

set_option maxHeartbeats 400000 in
theorem refAct_any (S : DS) (R : RM) (w : World) (hA : S.armed ≤ 9223372036854775807) (hd : S.down = false) :
    Calls Try.prog 30 #[.agg (RCells S R)] w fun e w' => e = .returned (.agg (RCells (strikeS S) R)) ∧ Below w.heap.size w w' := by
  unfold RCells
  rw [strikeS_N, strikeS_size, strikeS_loose]
  have LL := fun c d => ((Below.refl w.heap.size w).alloc (Nat.le_refl _) (.cells c 32)).alloc (by simp) (.cells d 32)
  have HL := Lib.hid LL
  clear LL
  obtain ⟨N, hN⟩ : ∃ N, N = S.N := ⟨_, rfl⟩
  obtain ⟨z, hz⟩ : ∃ z, z = S.size := ⟨_, rfl⟩
  obtain ⟨n, hn⟩ : ∃ n, n = S.loose.length := ⟨_, rfl⟩
  obtain ⟨a, ha⟩ : ∃ a, a = (strikeS S).armed := ⟨_, rfl⟩
  obtain ⟨dn, hdn⟩ : ∃ dn, dn = (strikeS S).down := ⟨_, rfl⟩
  rw [← hN, ← hz, ← hn, ← ha, ← hdn]
  clear hN hz hn
  by_cases h0 : S.armed = 0
  · have e : a = 0 ∧ dn = false := by rw [ha, hdn]; unfold strikeS; rw [if_pos h0]; exact ⟨h0, hd⟩
    obtain ⟨rfl, rfl⟩ := e
    rw [h0, hd]
    clear ha hdn h0 hA hd
    go_enter Try.func30, Try.ntmps30
    go_wp2
    exact bodyPost_ret (v := .agg #[.int .i64 (N : Int), .int .i64 (z : Int), .slice (some ⟨R.g, 0, none⟩) N R.c, .slice R.A n R.d, .int .i64 0, .bool false]) (by simp [results, Try.results30, go_sem]) rfl ⟨rfl, HL.out _ _⟩
  · by_cases h1 : S.armed = 1
    · have e : a = 0 ∧ dn = true := by rw [ha, hdn]; unfold strikeS; rw [if_neg h0, if_pos h1]; exact ⟨rfl, rfl⟩
      obtain ⟨rfl, rfl⟩ := e
      rw [h1, hd]
      clear ha hdn h0 h1 hA hd
      go_enter Try.func30, Try.ntmps30
      go_wp2
      exact bodyPost_ret (v := .agg #[.int .i64 (N : Int), .int .i64 (z : Int), .slice (some ⟨R.g, 0, none⟩) N R.c, .slice R.A n R.d, .int .i64 0, .bool true]) (by simp [results, Try.results30, go_sem]) rfl ⟨rfl, HL.out _ _⟩
    · obtain ⟨m, hm⟩ : ∃ m, S.armed = m + 2 := ⟨S.armed - 2, by omega⟩
      have e : a = m + 1 ∧ dn = false := by rw [ha, hdn]; unfold strikeS; rw [if_neg h0, if_neg h1]; exact ⟨by show S.armed - 1 = _; omega, hd⟩
      obtain ⟨rfl, rfl⟩ := e
      rw [hd]
      have hA2 : (m : Int) ≤ 9223372036854775805 := by omega
      have e2 : (S.armed : Int) = (m : Int) + 2 := by omega
      rw [e2]
      have q1 : (m : Int) + 2 - 1 = (m : Int) + 1 := by omega
      have q2 : ((m : Int) + 1 == 0) = false := by rw [beq_eq_false_iff_ne]; omega
      have q3 : ((m + 1 : Nat) : Int) = (m : Int) + 1 := by omega
      rw [q3]
      have Q1 := Lib.hid q1
      clear ha hdn h0 h1 hA hd hm e2 q1 q3
      go_enter Try.func30, Try.ntmps30
      go_wp2
      rw [Q1.out, q2]
      exact bodyPost_ret (v := .agg #[.int .i64 (N : Int), .int .i64 (z : Int), .slice (some ⟨R.g, 0, none⟩) N R.c, .slice R.A n R.d, .int .i64 ((m : Int) + 1), .bool false]) (by simp [results, Try.results30, go_sem]) rfl ⟨rfl, HL.out _ _⟩

theorem refChoice_any (A : Option Addr) (L c i n : Nat) (fa : Nat → Int) (w : World) (h : Ints w A L fa) (_hi : i ≤ 1000000) (hn : 1 ≤ n) (hn2 : n ≤ 1000000) :
    Calls Try.prog 35 #[.slice A L c, .int .i64 i, .int .i64 n] w fun e w' => e = .returned (.int .i64 (choiceN fa L i n)) ∧ w = w' := by
  obtain ⟨h1, h2, h3⟩ := h
  by_cases hlt : i < L
  · obtain ⟨b, o, rfl, hc⟩ := h3 (by omega)
    have hci := hc i hlt
    have hb := h2 i hlt
    have C := Lib.hid (show choiceN fa L i n = (fa i % (n : Int)).toNat from if_pos hlt)
    obtain ⟨x, hx⟩ : ∃ x, x = fa i := ⟨_, rfl⟩
    rw [← hx] at hci hb
    have HX := Lib.hid hx
    have hd : decide (L ≤ i) = false := by simpa using hlt
    clear h2 h3 hc hx
    go_enter Try.func35, Try.ntmps35
    go_wp2
    · rename_i hneg
      have hz : wrap64 (x.tmod (n : Int) + n) = ((choiceN fa L i n : Nat) : Int) := by
        rw [C.out, ← HX.out]; exact wrap_fate x n hn hn2 hneg
      rw [hz]
      go_ret
      exact ⟨rfl, rfl⟩
    · rename_i hneg
      have hz : x.tmod (n : Int) = ((choiceN fa L i n : Nat) : Int) := by
        rw [C.out, ← HX.out]; exact fate_pos x n hn hneg
      rw [hz]
      go_ret
      exact ⟨rfl, rfl⟩
  · have C := Lib.hid (show choiceN fa L i n = 0 from if_neg hlt)
    have hd : decide (L ≤ i) = true := by simpa using hlt
    clear h2 h3
    go_enter Try.func35, Try.ntmps35
    go_wp2
    go_ret
    exact ⟨by rw [C.out]; rfl, rfl⟩

theorem refRight_yes (N size : Int) (w : World) (h1 : 1 ≤ N) (h2 : N ≤ 1048576) (h3 : 64 ≤ size) (h4 : size ≤ 4096) :
    Calls Try.prog 9 #[.int .i64 N, .int .i64 size] w fun e w' => e = .returned (.bool true) ∧ w = w' := by
  go_enter Try.func9, Try.ntmps9
  go_wp2
  go_ret
  exact ⟨rfl, rfl⟩
theorem refRight_no (N size : Int) (w : World) (h : N < 1 ∨ 1048576 < N ∨ size < 64 ∨ 4096 < size) :
    Calls Try.prog 9 #[.int .i64 N, .int .i64 size] w fun e w' => e = .returned (.bool false) ∧ w = w' := by
  by_cases h1 : N < 1
  · have d1 : decide (1 ≤ N) = false := by simpa using h1
    clear h
    go_enter Try.func9, Try.ntmps9
    go_wp2
    go_ret
    exact ⟨rfl, rfl⟩
  · by_cases h2 : 1048576 < N
    · have d2 : decide (N ≤ 1048576) = false := by simpa using h2
      clear h
      go_enter Try.func9, Try.ntmps9
      go_wp2
      go_ret
      exact ⟨rfl, rfl⟩
    · by_cases h3 : size < 64
      · have d3 : decide (64 ≤ size) = false := by simpa using h3
        clear h
        go_enter Try.func9, Try.ntmps9
        go_wp2
        go_ret
        exact ⟨rfl, rfl⟩
      · have h4 : 4096 < size := by omega
        have d4 : decide (size ≤ 4096) = false := by simpa using h4
        clear h
        go_enter Try.func9, Try.ntmps9
        go_wp2
        go_ret
        exact ⟨rfl, rfl⟩

/-- The document's answer to Read. -/
def RRead (S : DS) (at_ : Int) (w : World) (e : Ending) (w' : World) : Prop :=
  e = .returned (.tuple #[.string (strF (S.now at_.toNat) (readN S at_)), .int .i64 (reachI S at_)]) ∧ Below w.heap.size w w'
theorem RD.looseAt {w : World} {S : DS} {R : RM} (h : RD w S R) (j : Nat) (hj : j < S.loose.length) :
    ∃ g x, R.A = some ⟨g, 0, none⟩ ∧ S.loose.length ≤ R.d ∧ R.d ≤ 9223372036854775807 ∧ S.loose[j]? = some x ∧ x.1 < S.N ∧ w.cell? ⟨g, j * 2, none⟩ = some (.int .i64 (x.1 : Int)) ∧ w.cell? ⟨g, j * 2 + 1, none⟩ = some (.string (strF x.2 S.size)) := by
  rcases h.l with ⟨_, _, q⟩ | ⟨g, q1, q2, q3, cs, q4, q5⟩
  · rw [q] at hj; exact absurd hj (by simp)
  · obtain ⟨x, hx⟩ : ∃ x, S.loose[j]? = some x := ⟨_, List.getElem?_eq_getElem hj⟩
    obtain ⟨a2, a3⟩ := rCells_get S.size S.loose j x hx
    exact ⟨g, x, q1, q2, q3, hx, q5.2 x (List.mem_of_getElem? hx), (cell_of_row w g _ _ _ _ q4).trans (q5.1 _ _ a2), (cell_of_row w g _ _ _ _ q4).trans (q5.1 _ _ a3)⟩
theorem RD.fastAt {w : World} {S : DS} {R : RM} (h : RD w S R) (j : Nat) (hj : j < S.N) : w.cell? ⟨R.g, j, none⟩ = some (.string (strF (S.fast j) S.size)) := by
  obtain ⟨_, _, cs, q4, q5⟩ := h.f
  exact (cell_of_row w R.g j _ _ _ q4).trans (q5 j hj)

set_option maxHeartbeats 1000000 in
theorem refRead_any (at_ : Int) (w : World) (S : DS) (R : RM) (h : RD w S R) (hi : NowInv S) :
    Calls Try.prog 17 #[.agg (RCells S R), .int .i64 at_] w (RRead S at_ w) := by
  have hN := h.hN
  have hL := h.hL
  have l0 : Below w.heap.size w (w.alloc (.cells (RCells S R) 32)) := (Below.refl _ _).alloc (Nat.le_refl _) _
  have H := Lib.hid (h.below l0)
  have L0 := Lib.hid l0
  have PE := Lib.hid (show reachI S at_ ≠ 0 → RRead S at_ w (.returned (.tuple #[.string { data := #[] }, .int .i64 (reachI S at_)])) (w.alloc (.cells (RCells S R) 32)) from fun q => ⟨by rw [show readN S at_ = 0 from if_neg q]; rfl, L0.out⟩)
  clear l0 h
  unfold RCells at L0 H PE ⊢
  by_cases hd : S.down = true
  · have P2 := Lib.hid (show RRead S at_ w (.returned (.tuple #[.string { data := #[] }, .int .i64 4])) _ by
      have e : reachI S at_ = 4 := if_pos hd
      have := PE.out (by rw [e]; omega)
      rw [e] at this
      exact this)
    rw [hd] at P2 ⊢
    clear hd PE
    go_enter Try.func17, Try.ntmps17
    go_wp2
    go_ret2
    exact P2.out
  · have hd2 : S.down = false := by simpa using hd
    by_cases h1 : at_ < 0
    · have P2 := Lib.hid (show RRead S at_ w (.returned (.tuple #[.string { data := #[] }, .int .i64 2])) _ by
        have e : reachI S at_ = 2 := by unfold reachI; rw [if_neg hd, if_pos (.inl h1)]
        have := PE.out (by rw [e]; omega)
        rw [e] at this
        exact this)
      rw [hd2] at P2 ⊢
      clear hd hd2 PE
      go_enter Try.func17, Try.ntmps17
      go_wp2
      go_ret2
      exact P2.out
    · by_cases h2 : (S.N : Int) ≤ at_
      · have P2 := Lib.hid (show RRead S at_ w (.returned (.tuple #[.string { data := #[] }, .int .i64 2])) _ by
          have e : reachI S at_ = 2 := by unfold reachI; rw [if_neg hd, if_pos (.inr h2)]
          have := PE.out (by rw [e]; omega)
          rw [e] at this
          exact this)
        rw [hd2] at P2 ⊢
        clear hd hd2 PE
        go_enter Try.func17, Try.ntmps17
        go_wp2
        go_ret2
        exact P2.out
      · obtain ⟨k, rfl⟩ := Int.eq_ofNat_of_zero_le (show 0 ≤ at_ by omega)
        have hk : k < S.N := by omega
        have er : reachI S (k : Int) = 0 := by unfold reachI; rw [if_neg hd, if_neg (by omega)]
        have en : readN S (k : Int) = S.size := if_pos er
        have PK := Lib.hid (show ∀ W, Below w.heap.size w W → RRead S (k : Int) w (.returned (.tuple #[.string (strF (fastTo S.fast S.loose k) S.size), .int .i64 0])) W from fun W l => ⟨by rw [er, en, show (k : Int).toNat = k from rfl, ← hi k], l⟩)
        have hfk := H.out.fastAt k hk
        have dN : decide (S.N ≤ k) = false := by simpa using hk
        have hR := H.out.f.2.1
        have hR1 := H.out.f.1
        rw [hd2] at L0 H PE hfk ⊢
        clear hd hd2 PE er en h1 h2
        obtain ⟨W, hW⟩ : ∃ W, W = w.alloc (.cells #[.int .i64 (S.N : Int), .int .i64 (S.size : Int), .slice (some ⟨R.g, 0, none⟩) S.N R.c, .slice R.A S.loose.length R.d, .int .i64 (S.armed : Int), .bool false] 32) := ⟨_, rfl⟩
        rw [← hW] at hfk L0 H
        have x0 : W.cell? ⟨w.heap.size, 0, none⟩ = some (.int .i64 (S.N : Int)) := by rw [hW]; simp
        have x2 : W.cell? ⟨w.heap.size, 2, none⟩ = some (.slice (some ⟨R.g, 0, none⟩) S.N R.c) := by rw [hW]; simp
        have x3 : W.cell? ⟨w.heap.size, 3, none⟩ = some (.slice R.A S.loose.length R.d) := by rw [hW]; simp
        have x5 : W.cell? ⟨w.heap.size, 5, none⟩ = some (.bool false) := by rw [hW]; simp
        have HW := Lib.hid hW
        clear hW
        go_enter Try.func17, Try.ntmps17
        go_upto_region 1 with (fail)
        rw [← HW.out]
        go_wp2
        go_loop [6, 7] (fun o i => ∃ j : Nat, j ≤ S.loose.length ∧ i = .int .i64 j ∧ o = .string (strF (fastTo S.fast (S.loose.take j) k) S.size)) (fun _ i => S.loose.length - (intOf i).toNat)
        case atStart => exact ⟨0, Nat.zero_le _, rfl, rfl⟩
        case round =>
          obtain ⟨j, hj, rfl, rfl⟩ := hrel
          by_cases hlt : j < S.loose.length
          · obtain ⟨g, x, e1, e2, e3, e4, e5, e6, e7⟩ := H.out.looseAt j hlt
            rw [e1] at x3
            have TK := Lib.hid (show fastTo S.fast (S.loose.take (j + 1)) k = if x.1 = k then x.2 else fastTo S.fast (S.loose.take j) k by
              rw [List.take_add_one, e4]
              show fastTo S.fast (S.loose.take j ++ [x]) k = _
              rw [fastTo_snoc]
              unfold upd
              by_cases q : k = x.1
              · rw [if_pos q, if_pos q.symm]
              · rw [if_neg q, if_neg (fun z => q z.symm)])
            clear e1 e4
            by_cases hx : x.1 = k
            · have q : ((x.1 : Int) == (k : Int)) = true := by rw [beq_iff_eq]; omega
              have TE := Lib.hid (TK.out.trans (if_pos hx))
              clear hx TK
              go_wp2
              go_round
              case rel => exact ⟨j + 1, by omega, by go_num, by rw [TE.out]⟩
              case measure => simp [intOf]; omega
            · have q : ((x.1 : Int) == (k : Int)) = false := by rw [beq_eq_false_iff_ne]; omega
              have TE := Lib.hid (TK.out.trans (if_neg hx))
              clear hx TK
              go_wp2
              go_round
              case rel => exact ⟨j + 1, by omega, by go_num, by rw [TE.out]⟩
              case measure => simp [intOf]; omega
          · obtain rfl : j = S.loose.length := by omega
            have PP := Lib.hid (PK.out W L0.out)
            rw [List.take_length]
            go_wp2
            go_ret2
            exact PP.out
end Go.Proofs.Ytpajedofffnhdaa
