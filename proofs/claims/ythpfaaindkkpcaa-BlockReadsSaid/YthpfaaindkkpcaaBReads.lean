/- the law BlockReads walked. -/
import Derived.Test.YthpfaaindkkpcaaBRefUnp
namespace Go.Proofs.Ythpfaaindkkpcaa
open Go.RowKit Go.Maps
set_option linter.unusedVariables false
set_option linter.unusedSimpArgs false

theorem ownB_empty (w : World) (F : Nat → Nat) : OwnB (w.alloc (.cells #[] 5)) w.heap.size (some ⟨w.heap.size, 0, none⟩) 0 0 F :=
  ⟨World.ownsRow_lit w #[] 0 (Nat.le_refl _) (by unfold maxLen; omega) rfl, fun i hi => absurd hi (by omega), by omega, by omega, fun e => by cases e⟩
theorem sameP_symm {p q : Pst} (h : SameP p q) : SameP q p := ⟨h.1.symm, h.2.1.symm, h.2.2.1.symm, h.2.2.2.symm⟩
theorem refUnp_some {xs : List Nat} {ls : List (Int × Int × List Int)} {w w' : World} {e : Ending} (hu : unpL xs = some ls) (h : RUEnd xs w e w') :
    ∃ A' c' Q, e = .returned (.tuple #[.slice A' ls.length c', .int .i64 0]) ∧ Psts w' A' ls.length Q ∧ fromD Q 0 ls.length = ls ∧ Below w.heap.size w w' := by
  rcases h with ⟨l, A', c', Q, h1, h2, h3, h4, h5⟩ | ⟨h1, _⟩
  · rw [hu] at h1
    injection h1 with h1
    subst h1
    exact ⟨A', c', Q, h2, h3, h4, h5⟩
  · rw [hu] at h1; cases h1
theorem refUnp_none {xs : List Nat} {w w' : World} {e : Ending} (hu : unpL xs = none) (h : RUEnd xs w e w') :
    e = .returned (.tuple #[.slice none 0 0, .int .i64 5]) ∧ Below w.heap.size w w' := by
  rcases h with ⟨l, A', c', Q, h1, _⟩ | ⟨_, h2, h3⟩
  · rw [hu] at h1; cases h1
  · exact ⟨h2, h3⟩
set_option maxRecDepth 100000 in
set_option maxHeartbeats 16000000 in
theorem blockReads_walk (A : Option Addr) (m d : Nat) (F : Nat → Nat) (w : World) (hB : Bytes w A m F) (hmd : m ≤ d) (hnil : A = none → d = 0) :
    Calls Try.prog 3 #[.slice A m d] w fun e w' => e = .returned (.bool true) ∧ Below w.heap.size w w' := by
  by_cases hm : m ≤ 600
  · have hX : ∀ x ∈ (List.range m).map F, x < 256 := (rb_bytes hB).2.1
    have HB := Lib.hid hB
    have HNil := Lib.hid hnil
    have HAw := Lib.hid awake_any
    have HR : Hid (∀ W, Below w.heap.size w W → Calls Try.prog 6 #[.slice A m d] W (RUEnd ((List.range m).map F) W)) := Lib.hid fun W l => refUnp_any A m d F W (HB.out.below l (Nat.le_refl _)) hm
    have hL : ((List.range m).map F).length = m := by simp
    have HEmp := Lib.hid (ownB_empty w F)
    have HSrc := Lib.hid (hB.below ((Below.refl w.heap.size w).alloc (Nat.le_refl _) (.cells #[] 5)) (Nat.le_refl _))
    have HCat : Hid (∀ (W : World) (A' : Option Addr) (c' : Nat), OwnB W w.heap.size A' (0 + m) c' (catF F 0 F) → RB W W.heap.size A' ((List.range m).map F) ∧ m ≤ c') := Lib.hid fun W A' c' ho => by
      have h1 := ho.bytes
      rw [Nat.zero_add] at h1
      have h2 : Bytes W A' m F := h1.congr fun i hi => by unfold catF; simp
      have h3 := ho.2.2.1
      exact ⟨rb_bytes h2, by omega⟩
    cases hu : unpL ((List.range m).map F) with
    | none =>
      have HU : Hid (∀ (W : World) (A' : Option Addr) (c' : Nat), RB W W.heap.size A' ((List.range m).map F) ∧ m ≤ c' → Calls Try.prog 5 #[.slice A' m c'] W fun e w' => e = .returned (.tuple #[.slice none 0 0, .int .i64 5]) ∧ Below W.heap.size W w') := Lib.hid fun W A' c' h => by
        have := unp_none hu (c := c') W h.1 (by rw [hL]; exact h.2)
        rwa [hL] at this
      have HU2 : Hid (∀ W, Below w.heap.size w W → Calls Try.prog 6 #[.slice A m d] W fun e w' => e = .returned (.tuple #[.slice none 0 0, .int .i64 5]) ∧ Below W.heap.size W w') := Lib.hid fun W l => (HR.out W l).mono fun e w' h => refUnp_none hu h
      have HT : Hid (∀ W, Calls Try.prog 8 #[.slice none 0 0] W fun e w' => ∃ A' c', e = .returned (.slice A' 0 c') ∧ Psts w' A' 0 (fun _ => ⟨0, 0, none, 0, 0, fun _ => 0⟩) ∧ Below W.heap.size W w') := Lib.hid fun W => told_any none 0 0 _ W (psts_nil W _) (by omega)
      have HS : Hid (∀ (W : World) (A' : Option Addr) (c' : Nat), Psts W A' 0 (fun _ => ⟨0, 0, none, 0, 0, fun _ => 0⟩) → Calls Try.prog 7 #[.slice A' 0 c', .slice none 0 0] W fun e w' => e = .returned (.bool true) ∧ Below W.heap.size W w') := Lib.hid fun W A' c' h => same_true A' 0 c' _ none 0 (fun _ => ⟨0, 0, none, 0, 0, fun _ => 0⟩) W h (psts_nil W _) (fun i hi => absurd hi (by omega))
      clear hB hX hu hL hnil HR
      go_enter Try.func3, Try.ntmps3
      go_wp2_with (first
        | (at_builtin; refine wpList_append_bytes _ rfl _ _ 22 rfl Try.underlying22 u8infoAll w.heap.size (some ⟨w.heap.size, 0, none⟩) 0 0 F rfl HEmp.out A m d F rfl HSrc.out HNil.out (by omega) (by simp) ?_; intro A1 c1 w1 ho hg hn; have HC := Lib.hid (HCat.out _ _ _ ho); have L := Lib.hid ((((Below.refl w.heap.size w).alloc (Nat.le_refl _) (.cells #[] 5))).grown hg (by simp) (fun j hj => by injection hj with hj; exact Nat.le_of_eq hj)); clear ho hg hn; simp only [Nat.zero_add])
        | (go_at_call 5; (with_reducible refine (HU.out _ _ _ HC.out).mono ?_); rintro e w2 ⟨rfl, l2⟩; have L := Lib.hid (L.out.trans (l2.mono L.out.size)); clear l2)
        | (go_at_call 6; (with_reducible refine (HU2.out _ L.out).mono ?_); rintro e w3 ⟨rfl, l3⟩; have L := Lib.hid (L.out.trans (l3.mono L.out.size)); clear l3)
        | (go_at_call 8; (with_reducible refine (HT.out _).mono ?_); rintro e w4 ⟨A4, c4, rfl, p4, l4⟩; have HP4 := Lib.hid p4; have L := Lib.hid (L.out.trans (l4.mono L.out.size)); clear p4 l4)
        | (go_at_call 7; (with_reducible refine (HS.out _ _ _ HP4.out).mono ?_); rintro e w5 ⟨rfl, l5⟩; have L := Lib.hid (L.out.trans (l5.mono L.out.size)); clear l5)
        | (go_at_call 9; (with_reducible refine (HAw.out _).mono ?_); rintro e w6 ⟨rfl, l6⟩; have L := Lib.hid (L.out.trans (l6.mono L.out.size)); clear l6))
      go_ret
      exact ⟨rfl, L.out⟩
    | some ls =>
      have hl64 := (unp_only hX hu).2.1
      have HU : Hid (∀ (W : World) (A' : Option Addr) (c' : Nat), RB W W.heap.size A' ((List.range m).map F) ∧ m ≤ c' → Calls Try.prog 5 #[.slice A' m c'] W fun e w' => ∃ A2 c2 Q, e = .returned (.tuple #[.slice A2 ls.length c2, .int .i64 0]) ∧ Psts w' A2 ls.length Q ∧ fromD Q 0 ls.length = ls ∧ Below W.heap.size W w') := Lib.hid fun W A' c' h => by
        have := unp_some hu (c := c') W h.1 (by rw [hL]; exact h.2)
        rwa [hL] at this
      have HU2 : Hid (∀ W, Below w.heap.size w W → Calls Try.prog 6 #[.slice A m d] W fun e w' => ∃ A2 c2 Q, e = .returned (.tuple #[.slice A2 ls.length c2, .int .i64 0]) ∧ Psts w' A2 ls.length Q ∧ fromD Q 0 ls.length = ls ∧ Below W.heap.size W w') := Lib.hid fun W l => (HR.out W l).mono fun e w' h => refUnp_some hu h
      have HAs : Hid (∀ (W : World) (A' : Option Addr) (Q P : Nat → Pst), Psts W A' ls.length Q → fromD Q 0 ls.length = ls → fromD P 0 ls.length = ls → Psts W A' ls.length (asP Q P) ∧ ∀ i, i < ls.length → SameP (asP Q P i) (P i)) := Lib.hid fun W A' Q P h h1 h2 => by
        obtain ⟨a, b⟩ := psts_as h (h1.trans h2.symm)
        exact ⟨a, fun i hi => sameP_symm (b i hi)⟩
      clear hB hX hu hL hnil HR
      generalize hkl : ls.length = kl at *
      have hk6 : kl ≤ 1000000 := by omega
      clear hkl
      go_enter Try.func3, Try.ntmps3
      go_wp2_with (first
        | (at_builtin; refine wpList_append_bytes _ rfl _ _ 22 rfl Try.underlying22 u8infoAll w.heap.size (some ⟨w.heap.size, 0, none⟩) 0 0 F rfl HEmp.out A m d F rfl HSrc.out HNil.out (by omega) (by simp) ?_; intro A1 c1 w1 ho hg hn; have HC := Lib.hid (HCat.out _ _ _ ho); have L := Lib.hid ((((Below.refl w.heap.size w).alloc (Nat.le_refl _) (.cells #[] 5))).grown hg (by simp) (fun j hj => by injection hj with hj; exact Nat.le_of_eq hj)); clear ho hg hn; simp only [Nat.zero_add])
        | (go_at_call 5; (with_reducible refine (HU.out _ _ _ HC.out).mono ?_); rintro e w2 ⟨A2, c2, Q2, rfl, p2, e2, l2⟩; have HP2 := Lib.hid p2; have HE2 := Lib.hid e2; have L := Lib.hid (L.out.trans (l2.mono L.out.size)); clear l2 p2 e2)
        | (go_at_call 6; (with_reducible refine (HU2.out _ L.out).mono ?_); rintro e w3 ⟨A3, c3, Q3, rfl, p3, e3, l3⟩; have HP2 := Lib.hid (HP2.out.below l3 (Nat.le_refl _)); obtain ⟨p3, s3⟩ := HAs.out _ _ _ _ p3 e3 HE2.out; have HP3 := Lib.hid p3; have HS3 := Lib.hid s3; have L := Lib.hid (L.out.trans (l3.mono L.out.size)); clear l3 p3 e3 s3)
        | (go_at_call 8; (with_reducible refine (told_any _ _ _ _ _ HP2.out hk6).mono ?_); rintro e w4 ⟨A4, c4, rfl, p4, l4⟩; have HP4 := Lib.hid p4; have HP3 := Lib.hid (HP3.out.below l4 (Nat.le_refl _)); have L := Lib.hid (L.out.trans (l4.mono L.out.size)); clear p4 l4)
        | (go_at_call 7; (with_reducible refine (same_true _ _ _ _ _ _ _ _ HP4.out HP3.out HS3.out).mono ?_); rintro e w5 ⟨rfl, l5⟩; have L := Lib.hid (L.out.trans (l5.mono L.out.size)); clear l5)
        | (go_at_call 9; (with_reducible refine (HAw.out _).mono ?_); rintro e w6 ⟨rfl, l6⟩; have L := Lib.hid (L.out.trans (l6.mono L.out.size)); clear l6))
      go_ret
      exact ⟨rfl, L.out⟩
  · have k1 : decide ((600 : Int) < m) = true := decide_eq_true (by omega)
    have hm9 := hB.1
    clear hB
    go_enter Try.func3, Try.ntmps3
    go_wp2_with fail
    go_ret
    exact ⟨rfl, Below.refl _ _⟩
end Go.Proofs.Ythpfaaindkkpcaa
