/- the law BlockBack walked. -/
import Derived.Test.YthpfaaindkkpcaaBTold
import Derived.Test.YthpfaaindkkpcaaBRbs
import Derived.Test.YthpfaaindkkpcaaBPacks
import Derived.Test.YthpfaaindkkpcaaBUnpPlain3
namespace Go.Proofs.Ythpfaaindkkpcaa
open Go.RowKit Go.Maps
set_option linter.unusedVariables false
set_option linter.unusedSimpArgs false

theorem ext_getD {α : Type} (d : α) : ∀ {l l' : List α}, l.length = l'.length → (∀ i, i < l.length → l.getD i d = l'.getD i d) → l = l' := by
  intro l
  induction l with
  | nil => intro l' hl _; exact (List.length_eq_zero_iff.1 hl.symm).symm
  | cons x l ih =>
    intro l' hl h
    cases l' with
    | nil => cases hl
    | cons y l' =>
      have h0 := h 0 (by simp)
      simp at h0
      subst h0
      congr 1
      refine ih (by simpa using hl) fun i hi => ?_
      have := h (i + 1) (by simp; omega)
      simpa using this
theorem psm_plain {base : Nat} {q : Pst} {p : Int × Int × List Int} (h : PsM base q p) : plP q = p := by
  obtain ⟨h1, h2, h3, h4, _⟩ := h
  obtain ⟨a, l, ps⟩ := p
  dsimp only at *
  unfold plP
  rw [h1, h2, h3, h4]
  congr 2
  refine ext_getD 0 (fromI_len _ _ _) fun i hi => ?_
  rw [fromI_len] at hi
  rw [fromI_get _ _ _ _ hi, Nat.zero_add]
theorem psm_data {base : Nat} {Q : Nat → Pst} {ls : List (Int × Int × List Int)} (h : ∀ i, i < ls.length → PsM base (Q i) (ls.getD i (0, 0, []))) : fromD Q 0 ls.length = ls := by
  refine ext_getD (0, 0, []) (fromD_len _ _ _) fun i hi => ?_
  rw [fromD_len] at hi
  rw [fromD_get _ _ _ _ hi, Nat.zero_add]
  exact psm_plain (h i hi)
theorem ints_congr {w : World} {A : Option Addr} {n : Nat} {F G : Nat → Int} (h : Ints w A n F) (e : ∀ i, i < n → F i = G i) : Ints w A n G :=
  ⟨h.1, fun i hi => by rw [← e i hi]; exact h.2.1 i hi, fun hn => by
    obtain ⟨b, o, ea, hc⟩ := h.2.2 hn
    exact ⟨b, o, ea, fun i hi => by rw [← e i hi]; exact hc i hi⟩⟩
theorem plain_eq {p q : Pst} (h : plP p = plP q) : p.row = q.row ∧ p.len = q.len ∧ p.n = q.n ∧ ∀ i, i < p.n → p.F i = q.F i := by
  unfold plP at h
  injection h with h1 h
  injection h with h2 h3
  have hl := congrArg List.length h3
  rw [fromI_len, fromI_len] at hl
  refine ⟨h1, h2, hl, fun i hi => ?_⟩
  have := show (fromI p.F 0 p.n).getD i 0 = (fromI q.F 0 q.n).getD i 0 from congrArg (fun l => l.getD i 0) h3
  rw [fromI_get _ _ _ _ hi, fromI_get _ _ _ _ (by omega), Nat.zero_add] at this
  exact this
/-- A row of the same data, told by the other's places. -/
def asP (Q P : Nat → Pst) (i : Nat) : Pst := ⟨(Q i).row, (Q i).len, (Q i).A, (Q i).n, (Q i).c, (P i).F⟩
theorem psts_as {w : World} {A : Option Addr} {n : Nat} {Q P : Nat → Pst} (h : Psts w A n Q) (e : fromD Q 0 n = fromD P 0 n) : Psts w A n (asP Q P) ∧ ∀ i, i < n → SameP (P i) (asP Q P i) := by
  have he : ∀ i, i < n → (Q i).row = (P i).row ∧ (Q i).len = (P i).len ∧ (Q i).n = (P i).n ∧ ∀ j, j < (Q i).n → (Q i).F j = (P i).F j := fun i hi => by
    have := show (fromD Q 0 n).getD i (0, 0, []) = (fromD P 0 n).getD i (0, 0, []) from congrArg (fun l => l.getD i (0, 0, [])) e
    rw [fromD_get _ _ _ _ hi, fromD_get _ _ _ _ hi, Nat.zero_add] at this
    exact plain_eq this
  refine ⟨⟨h.1, fun i hi => ⟨ints_congr (h.2.1 i hi).1 (he i hi).2.2.2, (h.2.1 i hi).2⟩, fun hn => ?_⟩, fun i hi => ?_⟩
  · obtain ⟨b, o, ea, hc⟩ := h.2.2 hn
    exact ⟨b, o, ea, fun i hi => ⟨(hc i hi).c0, (hc i hi).c1, (hc i hi).c2⟩⟩
  · obtain ⟨a, b, c, _⟩ := he i hi
    exact ⟨a.symm, b.symm, c.symm, rfl⟩
theorem unp_some {xs : List Nat} {ls : List (Int × Int × List Int)} (h : unpL xs = some ls) {A : Option Addr} {c : Nat} (w : World) (hr : RB w w.heap.size A xs) (hc : xs.length ≤ c) :
    Calls Try.prog 5 #[.slice A xs.length c] w fun e w' => ∃ A' c' Q, e = .returned (.tuple #[.slice A' ls.length c', .int .i64 0]) ∧ Psts w' A' ls.length Q ∧ fromD Q 0 ls.length = ls ∧ Below w.heap.size w w' := by
  refine (unpack_any A c xs w hr hc).mono fun e w' z => ?_
  rcases z with ⟨l, v, Q, h1, he, ho, hm, hb⟩ | ⟨h1, _⟩
  · rw [h] at h1
    injection h1 with h1
    subst h1
    obtain ⟨A', c', rfl, hp, _⟩ := ownQ_psts ho
    exact ⟨A', c', Q, he, hp, psm_data hm, hb⟩
  · rw [h] at h1; cases h1
theorem unp_none {xs : List Nat} (h : unpL xs = none) {A : Option Addr} {c : Nat} (w : World) (hr : RB w w.heap.size A xs) (hc : xs.length ≤ c) :
    Calls Try.prog 5 #[.slice A xs.length c] w fun e w' => e = .returned (.tuple #[.slice none 0 0, .int .i64 5]) ∧ Below w.heap.size w w' := by
  refine (unpack_any A c xs w hr hc).mono fun e w' z => ?_
  rcases z with ⟨l, v, Q, h1, _⟩ | ⟨_, he, hb⟩
  · rw [h] at h1; cases h1
  · exact ⟨he, hb⟩
theorem packX_yes {n : Nat} {P : Nat → Pst} (h : rightB n P = true) : packX n P = packL n P ∧ packE n P = 0 := by unfold packX packE; rw [h]; exact ⟨rfl, rfl⟩
theorem packX_no {n : Nat} {P : Nat → Pst} (h : rightB n P = false) : packX n P = [] ∧ packE n P = 5 := by unfold packX packE; rw [h]; exact ⟨rfl, rfl⟩
theorem unp_nil : unpL [] = none := by rfl
theorem psts_nil (w : World) (P : Nat → Pst) : Psts w none 0 P := ⟨by omega, fun i hi => absurd hi (by omega), fun hn => absurd hn (by omega)⟩
theorem right_zero (P : Nat → Pst) : rightB 0 P = true := decide_eq_true ⟨by omega, fun i hi => absurd hi (by omega)⟩
theorem strF_S (F : Nat → Nat) (m : Nat) : strF F m = strU ((List.range m).map F) := by
  have h := strF_U ((List.range m).map F)
  rw [List.length_map, List.length_range] at h
  rw [← h]
  exact strF_congr fun i hi => by simp [List.getD_eq_getElem?_getD, hi]
set_option maxRecDepth 100000 in
set_option maxHeartbeats 16000000 in
theorem back_yy (A : Option Addr) (n c : Nat) (P : Nat → Pst) (B2 : Option Addr) (m d2 : Nat) (F : Nat → Nat) (w : World) (hI : Psts w A n P) (hB : Bytes w B2 m F) (hmd : m ≤ d2) (hl : LightP n P) (hm : m ≤ 600) (hr : rightB n P = true) (hu : ∃ ls, unpL ((List.range m).map F) = some ls) :
    Calls Try.prog 4 #[.slice A n c, .slice B2 m d2] w fun e w' => e = .returned (.bool true) ∧ Below w.heap.size w w' := by
  have HL := Lib.hid (light_any A n c P w hI)
  rw [decide_eq_true hl] at HL
  have HI := Lib.hid hI
  have HLi := Lib.hid hl
  have HB := Lib.hid hB
  have hn6 : n ≤ 1000000 := by have := hl.1; omega
  have HAw := Lib.hid awake_any
  have HX : Hid (∀ x ∈ (List.range m).map F, x < 256) := Lib.hid (rb_bytes hB).2.1
  obtain ⟨xs, hxs⟩ : ∃ xs, xs = packX n P := ⟨_, rfl⟩
  have H256 : Hid (∀ x ∈ xs, x < 256) := Lib.hid (by rw [hxs]; exact packX_256 n P)
  obtain ⟨k0, hk0⟩ : ∃ k0, k0 = xs.length := ⟨_, rfl⟩
  have HPk : Hid (∀ (B : Option Addr) (d : Nat) (Q : Nat → Pst) (W : World), Psts W B n Q → (∀ i, i < n → SameP (Q i) (P i)) → Calls Try.prog 11 #[.slice B n d] W fun e w' => ∃ A1 c1, e = .returned (.tuple #[.slice A1 k0 c1, .int .i64 0]) ∧ OwnU w' W.heap.size (.slice A1 k0 c1) xs ∧ Below W.heap.size W w') := Lib.hid fun B d Q W h1 h2 => by
    have h := packX_any (c := d) W h1
    rw [(packX_same h2).1, (packX_same h2).2, ← hxs, (packX_yes hr).2, ← hk0] at h
    exact h
  have HU1 : Hid (∀ (B : Option Addr) (d base : Nat) (W : World), OwnU W base (.slice B k0 d) xs → Calls Try.prog 5 #[.slice B k0 d] W fun e w' => ∃ A' c' Q, e = .returned (.tuple #[.slice A' n c', .int .i64 0]) ∧ Psts w' A' n Q ∧ (∀ i, i < n → SameP (P i) (Q i)) ∧ Below W.heap.size W w') := Lib.hid fun B d base W ho => by
    rw [hk0] at ho ⊢
    obtain ⟨_, hc, hb⟩ := rb_own ho H256.out
    have hu := unp_pack hr
    rw [← (packX_yes hr).1, ← hxs] at hu
    have := unp_some hu (c := d) W hb hc
    rw [fromD_len] at this
    refine this.mono fun e w' ⟨A', c', Q, h1, h2, h3, h4⟩ => ?_
    obtain ⟨p1, p2⟩ := psts_as h2 h3
    exact ⟨A', c', _, h1, p1, p2, h4⟩
  obtain ⟨ls, hu⟩ := hu
  have HU2 : Hid (∀ W, Below w.heap.size w W → Calls Try.prog 5 #[.slice B2 m d2] W fun e w' => ∃ A' c' Q, e = .returned (.tuple #[.slice A' ls.length c', .int .i64 0]) ∧ Psts w' A' ls.length Q ∧ fromD Q 0 ls.length = ls ∧ Below W.heap.size W w') := Lib.hid fun W l => by
    have h := unp_some hu (c := d2) W (rb_bytes (HB.out.below l (Nat.le_refl _))) (by simpa using hmd)
    simpa using h
  have HP2 : Hid (∀ (A' : Option Addr) (c' : Nat) (Q : Nat → Pst) (W : World), Psts W A' ls.length Q → fromD Q 0 ls.length = ls → Calls Try.prog 11 #[.slice A' ls.length c'] W fun e w' => ∃ A1 c1, e = .returned (.tuple #[.slice A1 m c1, .int .i64 0]) ∧ OwnU w' W.heap.size (.slice A1 m c1) ((List.range m).map F) ∧ Below W.heap.size W w') := Lib.hid fun A' c' Q W hp he => by
    have hx : ∀ x ∈ (List.range m).map F, x < 256 := (rb_bytes HB.out).2.1
    obtain ⟨g1, g2⟩ := pack_unp (n := ls.length) (P := Q) hx (by rw [he]; exact hu)
    have h := packX_any (c := c') W hp
    rw [(packX_yes g1).1, (packX_yes g1).2, g2] at h
    simpa using h
  have hll : ls.length ≤ 64 := (unp_only HX.out hu).2.1
  clear hI hB hl hr hu hxs hk0 hmd
  generalize ls.length = kl at *
  go_enter Try.func4, Try.ntmps4
  go_upto_region 7 with (first
    | (go_at_call 10; (with_reducible refine HL.out.mono ?_); rintro e w1 ⟨rfl, l1⟩; have L := Lib.hid l1; clear l1)
    | (go_at_call 12; (with_reducible refine (of_is _ (HI.out.below L.out (Nat.le_refl _)) HLi.out).mono ?_); rintro e w2 ⟨B, d, Q, rfl, hq, hs, l2⟩; have HQ := Lib.hid hq; have HS := Lib.hid hs; have L := Lib.hid (L.out.trans (l2.mono L.out.size)); clear hq hs l2)
    | (go_at_call 11; (with_reducible refine (HPk.out _ _ _ _ HQ.out HS.out).mono ?_); rintro e w3 ⟨A1, c1, rfl, o1, l3⟩; have O1 := Lib.hid o1; have L := Lib.hid (L.out.trans (l3.mono L.out.size)); clear o1 l3)
    | (go_at_call 5; (with_reducible refine (HU1.out _ _ _ _ O1.out).mono ?_); rintro e w4 ⟨A4, c4, Q4, rfl, p4, s4, l4⟩; have HP4 := Lib.hid p4; have HS4 := Lib.hid s4; have L := Lib.hid (L.out.trans (l4.mono L.out.size)); clear p4 s4 l4)
    | (go_at_call 8; (with_reducible refine (told_any _ _ _ _ _ HP4.out hn6).mono ?_); rintro e w5 ⟨A5, c5, rfl, p5, l5⟩; have HP5 := Lib.hid p5; have L := Lib.hid (L.out.trans (l5.mono L.out.size)); clear p5 l5)
    | (go_at_call 7; (with_reducible refine (same_true _ _ _ _ _ _ _ _ HP5.out (HI.out.below L.out (Nat.le_refl _)) HS4.out).mono ?_); rintro e w6 ⟨rfl, l6⟩; have L := Lib.hid (L.out.trans (l6.mono L.out.size)); clear l6))
  go_wp2_with (first
    | (go_at_call 5; (with_reducible refine (HU2.out _ L.out).mono ?_); rintro e w7 ⟨A7, c7, Q7, rfl, p7, s7, l7⟩; have HP7 := Lib.hid p7; have HS7 := Lib.hid s7; have L := Lib.hid (L.out.trans (l7.mono L.out.size)); clear p7 s7 l7)
    | (go_at_call 11; (with_reducible refine (HP2.out _ _ _ _ HP7.out HS7.out).mono ?_); rintro e w8 ⟨A8, c8, rfl, o8, l8⟩; have O8 := Lib.hid o8; have L := Lib.hid (L.out.trans (l8.mono L.out.size)); have hcv1 := conv_own O8.out HX.out; have hcv2 := conv_any d2 (HB.out.below L.out (Nat.le_refl _)); rw [strF_S] at hcv2; generalize strU ((List.range m).map F) = sx at *; clear o8 l8)
    | (go_at_call 9; (with_reducible refine (HAw.out _).mono ?_); rintro e w9 ⟨rfl, l9⟩; have L := Lib.hid (L.out.trans (l9.mono L.out.size)); clear l9))
  go_ret
  exact ⟨rfl, L.out⟩
set_option maxRecDepth 100000 in
set_option maxHeartbeats 16000000 in
theorem back_yn (A : Option Addr) (n c : Nat) (P : Nat → Pst) (B2 : Option Addr) (m d2 : Nat) (F : Nat → Nat) (w : World) (hI : Psts w A n P) (hB : Bytes w B2 m F) (hmd : m ≤ d2) (hl : LightP n P) (hm : m ≤ 600) (hr : rightB n P = true) (hu : unpL ((List.range m).map F) = none) :
    Calls Try.prog 4 #[.slice A n c, .slice B2 m d2] w fun e w' => e = .returned (.bool true) ∧ Below w.heap.size w w' := by
  have HL := Lib.hid (light_any A n c P w hI)
  rw [decide_eq_true hl] at HL
  have HI := Lib.hid hI
  have HLi := Lib.hid hl
  have HB := Lib.hid hB
  have hn6 : n ≤ 1000000 := by have := hl.1; omega
  have HAw := Lib.hid awake_any
  have HX : Hid (∀ x ∈ (List.range m).map F, x < 256) := Lib.hid (rb_bytes hB).2.1
  obtain ⟨xs, hxs⟩ : ∃ xs, xs = packX n P := ⟨_, rfl⟩
  have H256 : Hid (∀ x ∈ xs, x < 256) := Lib.hid (by rw [hxs]; exact packX_256 n P)
  obtain ⟨k0, hk0⟩ : ∃ k0, k0 = xs.length := ⟨_, rfl⟩
  have HPk : Hid (∀ (B : Option Addr) (d : Nat) (Q : Nat → Pst) (W : World), Psts W B n Q → (∀ i, i < n → SameP (Q i) (P i)) → Calls Try.prog 11 #[.slice B n d] W fun e w' => ∃ A1 c1, e = .returned (.tuple #[.slice A1 k0 c1, .int .i64 0]) ∧ OwnU w' W.heap.size (.slice A1 k0 c1) xs ∧ Below W.heap.size W w') := Lib.hid fun B d Q W h1 h2 => by
    have h := packX_any (c := d) W h1
    rw [(packX_same h2).1, (packX_same h2).2, ← hxs, (packX_yes hr).2, ← hk0] at h
    exact h
  have HU1 : Hid (∀ (B : Option Addr) (d base : Nat) (W : World), OwnU W base (.slice B k0 d) xs → Calls Try.prog 5 #[.slice B k0 d] W fun e w' => ∃ A' c' Q, e = .returned (.tuple #[.slice A' n c', .int .i64 0]) ∧ Psts w' A' n Q ∧ (∀ i, i < n → SameP (P i) (Q i)) ∧ Below W.heap.size W w') := Lib.hid fun B d base W ho => by
    rw [hk0] at ho ⊢
    obtain ⟨_, hc, hb⟩ := rb_own ho H256.out
    have hu := unp_pack hr
    rw [← (packX_yes hr).1, ← hxs] at hu
    have := unp_some hu (c := d) W hb hc
    rw [fromD_len] at this
    refine this.mono fun e w' ⟨A', c', Q, h1, h2, h3, h4⟩ => ?_
    obtain ⟨p1, p2⟩ := psts_as h2 h3
    exact ⟨A', c', _, h1, p1, p2, h4⟩
  have HU2 : Hid (∀ W, Below w.heap.size w W → Calls Try.prog 5 #[.slice B2 m d2] W fun e w' => e = .returned (.tuple #[.slice none 0 0, .int .i64 5]) ∧ Below W.heap.size W w') := Lib.hid fun W l => by
    have h := unp_none hu (c := d2) W (rb_bytes (HB.out.below l (Nat.le_refl _))) (by simpa using hmd)
    simpa using h
  have HP2 : Hid (∀ W, Calls Try.prog 11 #[.slice none 0 0] W fun e w' => ∃ A1 k1 c1, e = .returned (.tuple #[.slice A1 k1 c1, .int .i64 0]) ∧ Below W.heap.size W w') := Lib.hid fun W => by
    have h := packX_any (c := 0) W (psts_nil W P)
    rw [(packX_yes (right_zero P)).2] at h
    exact h.mono fun e w' ⟨A1, c1, h1, _, h3⟩ => ⟨A1, _, c1, h1, h3⟩
  have hll := 0
  clear hI hB hl hr hu hxs hk0 hmd
  clear hll
  go_enter Try.func4, Try.ntmps4
  go_upto_region 7 with (first
    | (go_at_call 10; (with_reducible refine HL.out.mono ?_); rintro e w1 ⟨rfl, l1⟩; have L := Lib.hid l1; clear l1)
    | (go_at_call 12; (with_reducible refine (of_is _ (HI.out.below L.out (Nat.le_refl _)) HLi.out).mono ?_); rintro e w2 ⟨B, d, Q, rfl, hq, hs, l2⟩; have HQ := Lib.hid hq; have HS := Lib.hid hs; have L := Lib.hid (L.out.trans (l2.mono L.out.size)); clear hq hs l2)
    | (go_at_call 11; (with_reducible refine (HPk.out _ _ _ _ HQ.out HS.out).mono ?_); rintro e w3 ⟨A1, c1, rfl, o1, l3⟩; have O1 := Lib.hid o1; have L := Lib.hid (L.out.trans (l3.mono L.out.size)); clear o1 l3)
    | (go_at_call 5; (with_reducible refine (HU1.out _ _ _ _ O1.out).mono ?_); rintro e w4 ⟨A4, c4, Q4, rfl, p4, s4, l4⟩; have HP4 := Lib.hid p4; have HS4 := Lib.hid s4; have L := Lib.hid (L.out.trans (l4.mono L.out.size)); clear p4 s4 l4)
    | (go_at_call 8; (with_reducible refine (told_any _ _ _ _ _ HP4.out hn6).mono ?_); rintro e w5 ⟨A5, c5, rfl, p5, l5⟩; have HP5 := Lib.hid p5; have L := Lib.hid (L.out.trans (l5.mono L.out.size)); clear p5 l5)
    | (go_at_call 7; (with_reducible refine (same_true _ _ _ _ _ _ _ _ HP5.out (HI.out.below L.out (Nat.le_refl _)) HS4.out).mono ?_); rintro e w6 ⟨rfl, l6⟩; have L := Lib.hid (L.out.trans (l6.mono L.out.size)); clear l6))
  go_wp2_with (first
    | (go_at_call 5; (with_reducible refine (HU2.out _ L.out).mono ?_); rintro e w7 ⟨rfl, l7⟩; have L := Lib.hid (L.out.trans (l7.mono L.out.size)); clear l7)
    | (go_at_call 11; (with_reducible refine (HP2.out _).mono ?_); rintro e w8 ⟨A8, k8, c8, rfl, l8⟩; have L := Lib.hid (L.out.trans (l8.mono L.out.size)); clear l8)
    | (go_at_call 9; (with_reducible refine (HAw.out _).mono ?_); rintro e w9 ⟨rfl, l9⟩; have L := Lib.hid (L.out.trans (l9.mono L.out.size)); clear l9))
  go_ret
  exact ⟨rfl, L.out⟩
set_option maxRecDepth 100000 in
set_option maxHeartbeats 16000000 in
theorem back_ny (A : Option Addr) (n c : Nat) (P : Nat → Pst) (B2 : Option Addr) (m d2 : Nat) (F : Nat → Nat) (w : World) (hI : Psts w A n P) (hB : Bytes w B2 m F) (hmd : m ≤ d2) (hl : LightP n P) (hm : m ≤ 600) (hr : rightB n P = false) (hu : ∃ ls, unpL ((List.range m).map F) = some ls) :
    Calls Try.prog 4 #[.slice A n c, .slice B2 m d2] w fun e w' => e = .returned (.bool true) ∧ Below w.heap.size w w' := by
  have HL := Lib.hid (light_any A n c P w hI)
  rw [decide_eq_true hl] at HL
  have HI := Lib.hid hI
  have HLi := Lib.hid hl
  have HB := Lib.hid hB
  have hn6 : n ≤ 1000000 := by have := hl.1; omega
  have HAw := Lib.hid awake_any
  have HX : Hid (∀ x ∈ (List.range m).map F, x < 256) := Lib.hid (rb_bytes hB).2.1
  obtain ⟨xs, hxs⟩ : ∃ xs, xs = packX n P := ⟨_, rfl⟩
  have H256 : Hid (∀ x ∈ xs, x < 256) := Lib.hid (by rw [hxs]; exact packX_256 n P)
  obtain ⟨k0, hk0⟩ : ∃ k0, k0 = xs.length := ⟨_, rfl⟩
  have HPk : Hid (∀ (B : Option Addr) (d : Nat) (Q : Nat → Pst) (W : World), Psts W B n Q → (∀ i, i < n → SameP (Q i) (P i)) → Calls Try.prog 11 #[.slice B n d] W fun e w' => ∃ A1 c1, e = .returned (.tuple #[.slice A1 k0 c1, .int .i64 5]) ∧ OwnU w' W.heap.size (.slice A1 k0 c1) xs ∧ Below W.heap.size W w') := Lib.hid fun B d Q W h1 h2 => by
    have h := packX_any (c := d) W h1
    rw [(packX_same h2).1, (packX_same h2).2, ← hxs, (packX_no hr).2, ← hk0] at h
    exact h
  have HU1 : Hid (∀ (B : Option Addr) (d base : Nat) (W : World), OwnU W base (.slice B k0 d) xs → Calls Try.prog 5 #[.slice B k0 d] W fun e w' => e = .returned (.tuple #[.slice none 0 0, .int .i64 5]) ∧ Below W.heap.size W w') := Lib.hid fun B d base W ho => by
    rw [hk0] at ho ⊢
    obtain ⟨_, hc, hb⟩ := rb_own ho H256.out
    have hu := unp_nil
    rw [← (packX_no hr).1, ← hxs] at hu
    exact unp_none hu (c := d) W hb hc
  obtain ⟨ls, hu⟩ := hu
  have HU2 : Hid (∀ W, Below w.heap.size w W → Calls Try.prog 5 #[.slice B2 m d2] W fun e w' => ∃ A' c' Q, e = .returned (.tuple #[.slice A' ls.length c', .int .i64 0]) ∧ Psts w' A' ls.length Q ∧ fromD Q 0 ls.length = ls ∧ Below W.heap.size W w') := Lib.hid fun W l => by
    have h := unp_some hu (c := d2) W (rb_bytes (HB.out.below l (Nat.le_refl _))) (by simpa using hmd)
    simpa using h
  have HP2 : Hid (∀ (A' : Option Addr) (c' : Nat) (Q : Nat → Pst) (W : World), Psts W A' ls.length Q → fromD Q 0 ls.length = ls → Calls Try.prog 11 #[.slice A' ls.length c'] W fun e w' => ∃ A1 c1, e = .returned (.tuple #[.slice A1 m c1, .int .i64 0]) ∧ OwnU w' W.heap.size (.slice A1 m c1) ((List.range m).map F) ∧ Below W.heap.size W w') := Lib.hid fun A' c' Q W hp he => by
    have hx : ∀ x ∈ (List.range m).map F, x < 256 := (rb_bytes HB.out).2.1
    obtain ⟨g1, g2⟩ := pack_unp (n := ls.length) (P := Q) hx (by rw [he]; exact hu)
    have h := packX_any (c := c') W hp
    rw [(packX_yes g1).1, (packX_yes g1).2, g2] at h
    simpa using h
  have hll : ls.length ≤ 64 := (unp_only HX.out hu).2.1
  clear hI hB hl hr hu hxs hk0 hmd
  generalize ls.length = kl at *
  go_enter Try.func4, Try.ntmps4
  go_upto_region 7 with (first
    | (go_at_call 10; (with_reducible refine HL.out.mono ?_); rintro e w1 ⟨rfl, l1⟩; have L := Lib.hid l1; clear l1)
    | (go_at_call 12; (with_reducible refine (of_is _ (HI.out.below L.out (Nat.le_refl _)) HLi.out).mono ?_); rintro e w2 ⟨B, d, Q, rfl, hq, hs, l2⟩; have HQ := Lib.hid hq; have HS := Lib.hid hs; have L := Lib.hid (L.out.trans (l2.mono L.out.size)); clear hq hs l2)
    | (go_at_call 11; (with_reducible refine (HPk.out _ _ _ _ HQ.out HS.out).mono ?_); rintro e w3 ⟨A1, c1, rfl, o1, l3⟩; have O1 := Lib.hid o1; have L := Lib.hid (L.out.trans (l3.mono L.out.size)); clear o1 l3)
    | (go_at_call 5; (with_reducible refine (HU1.out _ _ _ _ O1.out).mono ?_); rintro e w4 ⟨rfl, l4⟩; have L := Lib.hid (L.out.trans (l4.mono L.out.size)); clear l4))
  go_wp2_with (first
    | (go_at_call 5; (with_reducible refine (HU2.out _ L.out).mono ?_); rintro e w7 ⟨A7, c7, Q7, rfl, p7, s7, l7⟩; have HP7 := Lib.hid p7; have HS7 := Lib.hid s7; have L := Lib.hid (L.out.trans (l7.mono L.out.size)); clear p7 s7 l7)
    | (go_at_call 11; (with_reducible refine (HP2.out _ _ _ _ HP7.out HS7.out).mono ?_); rintro e w8 ⟨A8, c8, rfl, o8, l8⟩; have O8 := Lib.hid o8; have L := Lib.hid (L.out.trans (l8.mono L.out.size)); have hcv1 := conv_own O8.out HX.out; have hcv2 := conv_any d2 (HB.out.below L.out (Nat.le_refl _)); rw [strF_S] at hcv2; generalize strU ((List.range m).map F) = sx at *; clear o8 l8)
    | (go_at_call 9; (with_reducible refine (HAw.out _).mono ?_); rintro e w9 ⟨rfl, l9⟩; have L := Lib.hid (L.out.trans (l9.mono L.out.size)); clear l9))
  go_ret
  exact ⟨rfl, L.out⟩
set_option maxRecDepth 100000 in
set_option maxHeartbeats 16000000 in
theorem back_nn (A : Option Addr) (n c : Nat) (P : Nat → Pst) (B2 : Option Addr) (m d2 : Nat) (F : Nat → Nat) (w : World) (hI : Psts w A n P) (hB : Bytes w B2 m F) (hmd : m ≤ d2) (hl : LightP n P) (hm : m ≤ 600) (hr : rightB n P = false) (hu : unpL ((List.range m).map F) = none) :
    Calls Try.prog 4 #[.slice A n c, .slice B2 m d2] w fun e w' => e = .returned (.bool true) ∧ Below w.heap.size w w' := by
  have HL := Lib.hid (light_any A n c P w hI)
  rw [decide_eq_true hl] at HL
  have HI := Lib.hid hI
  have HLi := Lib.hid hl
  have HB := Lib.hid hB
  have hn6 : n ≤ 1000000 := by have := hl.1; omega
  have HAw := Lib.hid awake_any
  have HX : Hid (∀ x ∈ (List.range m).map F, x < 256) := Lib.hid (rb_bytes hB).2.1
  obtain ⟨xs, hxs⟩ : ∃ xs, xs = packX n P := ⟨_, rfl⟩
  have H256 : Hid (∀ x ∈ xs, x < 256) := Lib.hid (by rw [hxs]; exact packX_256 n P)
  obtain ⟨k0, hk0⟩ : ∃ k0, k0 = xs.length := ⟨_, rfl⟩
  have HPk : Hid (∀ (B : Option Addr) (d : Nat) (Q : Nat → Pst) (W : World), Psts W B n Q → (∀ i, i < n → SameP (Q i) (P i)) → Calls Try.prog 11 #[.slice B n d] W fun e w' => ∃ A1 c1, e = .returned (.tuple #[.slice A1 k0 c1, .int .i64 5]) ∧ OwnU w' W.heap.size (.slice A1 k0 c1) xs ∧ Below W.heap.size W w') := Lib.hid fun B d Q W h1 h2 => by
    have h := packX_any (c := d) W h1
    rw [(packX_same h2).1, (packX_same h2).2, ← hxs, (packX_no hr).2, ← hk0] at h
    exact h
  have HU1 : Hid (∀ (B : Option Addr) (d base : Nat) (W : World), OwnU W base (.slice B k0 d) xs → Calls Try.prog 5 #[.slice B k0 d] W fun e w' => e = .returned (.tuple #[.slice none 0 0, .int .i64 5]) ∧ Below W.heap.size W w') := Lib.hid fun B d base W ho => by
    rw [hk0] at ho ⊢
    obtain ⟨_, hc, hb⟩ := rb_own ho H256.out
    have hu := unp_nil
    rw [← (packX_no hr).1, ← hxs] at hu
    exact unp_none hu (c := d) W hb hc
  have HU2 : Hid (∀ W, Below w.heap.size w W → Calls Try.prog 5 #[.slice B2 m d2] W fun e w' => e = .returned (.tuple #[.slice none 0 0, .int .i64 5]) ∧ Below W.heap.size W w') := Lib.hid fun W l => by
    have h := unp_none hu (c := d2) W (rb_bytes (HB.out.below l (Nat.le_refl _))) (by simpa using hmd)
    simpa using h
  have HP2 : Hid (∀ W, Calls Try.prog 11 #[.slice none 0 0] W fun e w' => ∃ A1 k1 c1, e = .returned (.tuple #[.slice A1 k1 c1, .int .i64 0]) ∧ Below W.heap.size W w') := Lib.hid fun W => by
    have h := packX_any (c := 0) W (psts_nil W P)
    rw [(packX_yes (right_zero P)).2] at h
    exact h.mono fun e w' ⟨A1, c1, h1, _, h3⟩ => ⟨A1, _, c1, h1, h3⟩
  have hll := 0
  clear hI hB hl hr hu hxs hk0 hmd
  clear hll
  go_enter Try.func4, Try.ntmps4
  go_upto_region 7 with (first
    | (go_at_call 10; (with_reducible refine HL.out.mono ?_); rintro e w1 ⟨rfl, l1⟩; have L := Lib.hid l1; clear l1)
    | (go_at_call 12; (with_reducible refine (of_is _ (HI.out.below L.out (Nat.le_refl _)) HLi.out).mono ?_); rintro e w2 ⟨B, d, Q, rfl, hq, hs, l2⟩; have HQ := Lib.hid hq; have HS := Lib.hid hs; have L := Lib.hid (L.out.trans (l2.mono L.out.size)); clear hq hs l2)
    | (go_at_call 11; (with_reducible refine (HPk.out _ _ _ _ HQ.out HS.out).mono ?_); rintro e w3 ⟨A1, c1, rfl, o1, l3⟩; have O1 := Lib.hid o1; have L := Lib.hid (L.out.trans (l3.mono L.out.size)); clear o1 l3)
    | (go_at_call 5; (with_reducible refine (HU1.out _ _ _ _ O1.out).mono ?_); rintro e w4 ⟨rfl, l4⟩; have L := Lib.hid (L.out.trans (l4.mono L.out.size)); clear l4))
  go_wp2_with (first
    | (go_at_call 5; (with_reducible refine (HU2.out _ L.out).mono ?_); rintro e w7 ⟨rfl, l7⟩; have L := Lib.hid (L.out.trans (l7.mono L.out.size)); clear l7)
    | (go_at_call 11; (with_reducible refine (HP2.out _).mono ?_); rintro e w8 ⟨A8, k8, c8, rfl, l8⟩; have L := Lib.hid (L.out.trans (l8.mono L.out.size)); clear l8)
    | (go_at_call 9; (with_reducible refine (HAw.out _).mono ?_); rintro e w9 ⟨rfl, l9⟩; have L := Lib.hid (L.out.trans (l9.mono L.out.size)); clear l9))
  go_ret
  exact ⟨rfl, L.out⟩
theorem back_big (A : Option Addr) (n c : Nat) (P : Nat → Pst) (B2 : Option Addr) (m d2 : Nat) (F : Nat → Nat) (w : World) (hI : Psts w A n P) (hm9 : m ≤ 9223372036854775807) (hm : ¬ m ≤ 600 ∨ ¬ LightP n P) :
    Calls Try.prog 4 #[.slice A n c, .slice B2 m d2] w fun e w' => e = .returned (.bool true) ∧ Below w.heap.size w w' := by
  have HL := Lib.hid (light_any A n c P w hI)
  clear hI
  by_cases hl : LightP n P
  · rw [decide_eq_true hl] at HL
    have h6 : ¬ m ≤ 600 := by rcases hm with h | h; exact h; exact absurd hl h
    have k1 : decide ((600 : Int) < m) = true := decide_eq_true (by omega)
    clear hm h6 hl
    go_enter Try.func4, Try.ntmps4
    go_wp2_with (go_at_call 10; (with_reducible refine HL.out.mono ?_); rintro e w1 ⟨rfl, l1⟩; have L1 := Lib.hid l1; clear l1)
    go_ret
    exact ⟨rfl, L1.out⟩
  · rw [decide_eq_false hl] at HL
    clear hm hl
    go_enter Try.func4, Try.ntmps4
    go_wp2_with (go_at_call 10; (with_reducible refine HL.out.mono ?_); rintro e w1 ⟨rfl, l1⟩; have L1 := Lib.hid l1; clear l1)
    go_ret
    exact ⟨rfl, L1.out⟩
theorem blockBack_walk (A : Option Addr) (n c : Nat) (P : Nat → Pst) (B2 : Option Addr) (m d2 : Nat) (F : Nat → Nat) (w : World) (hI : Psts w A n P) (hB : Bytes w B2 m F) (hmd : m ≤ d2) :
    Calls Try.prog 4 #[.slice A n c, .slice B2 m d2] w fun e w' => e = .returned (.bool true) ∧ Below w.heap.size w w' := by
  by_cases hl : LightP n P
  · by_cases hm : m ≤ 600
    · cases hr : rightB n P with
      | true => cases hu : unpL ((List.range m).map F) with
        | some ls => exact back_yy A n c P B2 m d2 F w hI hB hmd hl hm hr ⟨ls, hu⟩
        | none => exact back_yn A n c P B2 m d2 F w hI hB hmd hl hm hr hu
      | false => cases hu : unpL ((List.range m).map F) with
        | some ls => exact back_ny A n c P B2 m d2 F w hI hB hmd hl hm hr ⟨ls, hu⟩
        | none => exact back_nn A n c P B2 m d2 F w hI hB hmd hl hm hr hu
    · exact back_big A n c P B2 m d2 F w hI hB.1 (.inl hm)
  · exact back_big A n c P B2 m d2 F w hI hB.1 (.inr hl)
end Go.Proofs.Ythpfaaindkkpcaa
