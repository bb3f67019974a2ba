/- the reader: need, number. -/
import Derived.Test.YthpfaaindkkpcaaBPut
import Derived.WalkLawsBesides
import Derived.Sort.Walk7a
namespace Go.Proofs.Ythpfaaindkkpcaa
open Go.RowKit Go.Maps
set_option linter.unusedVariables false
set_option linter.unusedSimpArgs false

/-- The panic that ends a reading. -/
abbrev faultP : PanicEntry := { v := .iface 54 (.agg #[.int .i64 5]), recovered := false }
/-- A number read behind the pieces that make acc, and what is left. -/
def rdL (most : Int) : Nat → List Nat → Option (Nat × List Nat)
  | _, [] => none
  | acc, c :: r => if most < ((acc * 128 + c % 128 : Nat) : Int) then none else if c < 128 then some (acc * 128 + c % 128, r) else if acc * 128 + c % 128 = 0 then none else rdL most (acc * 128 + c % 128) r
/-- The bytes xs lie at A, in a block below B. -/
def RB (w : World) (B : Nat) (A : Option Addr) (xs : List Nat) : Prop :=
  xs.length ≤ 9223372036854775807 ∧ (∀ x ∈ xs, x < 256) ∧ (xs ≠ [] → ∃ b o, A = some ⟨b, o, none⟩ ∧ b < B ∧ ∀ (i x : Nat), xs[i]? = some x → w.cell? ⟨b, o + i, none⟩ = some (.int .u8 x))
/-- The reader in block Bx has xs before it. -/
def Rd (w : World) (Bx : Nat) (xs : List Nat) : Prop :=
  ∃ A c, w.heap[Bx]? = some (.cells #[.slice A xs.length c] 57) ∧ xs.length ≤ c ∧ RB w Bx A xs
/-- But block Bx nothing that was there has turned. -/
def Kp (Bx : Nat) (w w' : World) : Prop := Below Bx w w' ∧ ∀ g, Bx < g → g < w.heap.size → w'.heap[g]? = w.heap[g]?
theorem Kp.refl (Bx : Nat) (w : World) : Kp Bx w w := ⟨Below.refl _ _, fun _ _ _ => rfl⟩
theorem Kp.trans {Bx : Nat} {a b c : World} (h : Kp Bx a b) (k : Kp Bx b c) : Kp Bx a c :=
  ⟨h.1.trans k.1, fun g h1 h2 => (k.2 g h1 (Nat.lt_of_lt_of_le h2 h.1.size)).trans (h.2 g h1 h2)⟩
theorem Kp.of {Bx : Nat} {w w' : World} (h : Below w.heap.size w w') (hlt : Bx < w.heap.size) : Kp Bx w w' := ⟨h.mono (by omega), fun g _ h2 => h.block g h2⟩
theorem Kp.set (Bx o : Nat) (w : World) (v : Value) : Kp Bx w (w.setCell ⟨Bx, o, none⟩ v) :=
  ⟨(Below.refl _ _).setCell (p := ⟨Bx, o, none⟩) (Nat.le_refl _) v, fun g h1 _ => Below.heap_setCell _ _ _ _ (by show g ≠ Bx; omega)⟩
theorem RB.keep {w w' : World} {B : Nat} {A : Option Addr} {xs : List Nat} (h : RB w B A xs) (k : ∀ g, g < B → w'.heap[g]? = w.heap[g]?) : RB w' B A xs :=
  ⟨h.1, h.2.1, fun hn => by
    obtain ⟨b, o, rfl, hb, hc⟩ := h.2.2 hn
    exact ⟨b, o, rfl, hb, fun i x hx => (World.cell?_of_block (w := w) (a := ⟨b, o + i, none⟩) (k b hb)).trans (hc i x hx)⟩⟩
theorem RB.tail {w : World} {B b o : Nat} {A' : Option Addr} {x : Nat} {xs : List Nat} (h : RB w B (some ⟨b, o, none⟩) (x :: xs)) (hA : xs ≠ [] → A' = some ⟨b, o + 1, none⟩) : RB w B A' xs := by
  refine ⟨by have := h.1; simp at this; omega, fun y hy => h.2.1 y (List.mem_cons_of_mem _ hy), fun hn => ?_⟩
  obtain ⟨b', o', e, hb, hc⟩ := h.2.2 (by simp)
  injection e with e
  injection e with e1 e2
  subst e1 e2
  refine ⟨b, o + 1, hA hn, hb, fun i y hy => ?_⟩
  have := hc (i + 1) y (by simpa using hy)
  rwa [show o + (i + 1) = o + 1 + i by omega] at this
theorem need_true (w : World) : Calls Try.prog 24 #[.bool true] w fun e w' => e = .returned (.tuple #[]) ∧ w' = w := by
  go_enter Try.func24, Try.ntmps24
  go_wp2
  go_end0
  exact ⟨rfl, rfl⟩
theorem need_false (w : World) : Calls Try.prog 24 #[.bool false] w fun e w' => e = .panicked [faultP] ∧ w' = w := by
  go_enter Try.func24, Try.ntmps24
  go_wp2
  exact ⟨rfl, rfl, rfl⟩
theorem Rd.c {w : World} {Bx : Nat} {xs : List Nat} (h : Rd w Bx xs) : ∃ A c, w.cell? ⟨Bx, 0, none⟩ = some (.slice A xs.length c) ∧ w.frozen? ⟨Bx, 0, none⟩ = false ∧ xs.length ≤ c ∧ RB w Bx A xs := by
  obtain ⟨A, c, hh, hr⟩ := h
  refine ⟨A, c, by simpa using cell_of_row w Bx 0 #[.slice A xs.length c] _ _ hh, ?_, hr⟩
  unfold World.frozen?
  simp [hh]
theorem Rd.set {w : World} {Bx : Nat} {xs ys : List Nat} {A' : Option Addr} {c' : Nat} (h : Rd w Bx xs) (hr : RB w Bx A' ys) (hl : ys.length ≤ c') : Rd (w.setCell ⟨Bx, 0, none⟩ (.slice A' ys.length c')) Bx ys := by
  obtain ⟨A, c, hh, _⟩ := h
  refine ⟨A', c', ?_, hl, hr.keep fun g hg => Below.heap_setCell _ _ _ _ (by show g ≠ Bx; omega)⟩
  simp [World.setCell, Array.getElem?_modify, hh]
/-- How long what is left is. -/
def leftN (w : World) (Bx : Nat) : Nat := match w.cell? ⟨Bx, 0, none⟩ with | some (.slice _ n _) => n | _ => 0
theorem Rd.left {w : World} {Bx : Nat} {xs : List Nat} (h : Rd w Bx xs) : leftN w Bx = xs.length := by
  obtain ⟨A, c, hc, _⟩ := h.c
  unfold leftN
  rw [hc]
/-- How a reading ends. -/
def NumEnd (most : Int) (acc : Nat) (xs : List Nat) (Bx : Nat) (w : World) (e : Ending) (w' : World) : Prop :=
  (∃ a r, rdL most acc xs = some (a, r) ∧ e = .returned (.int .i64 (a : Nat)) ∧ Rd w' Bx r ∧ Kp Bx w w') ∨ (rdL most acc xs = none ∧ e = .panicked [faultP] ∧ Kp Bx w w')
theorem of64 (a : Nat) (ha : a < 18446744073709551616) : (BitVec.ofInt 64 (a : Int)).toNat = a := by
  rw [BitVec.ofInt_natCast, BitVec.toNat_ofNat]; exact Nat.mod_eq_of_lt (by omega)
theorem or64 (a b : Nat) (ha : a < 9223372036854775808) (hb : b < 9223372036854775808) : bits BinOp.or IntKind.i64 (a : Int) (b : Int) = ((a ||| b : Nat) : Int) := by
  have hx : a ||| b < 2 ^ 63 := Nat.or_lt_two_pow (by omega) (by omega)
  show IntKind.i64.wrap ((BitVec.ofInt 64 (a : Int) ||| BitVec.ofInt 64 (b : Int)).toNat : Int) = _
  rw [BitVec.toNat_or, of64 a (by omega), of64 b (by omega)]
  exact IntWalk.i64_in _ (by omega)
theorem orPiece (acc x : Nat) (ha : acc < 72057594037927936) (hx : x < 256) : bits BinOp.or IntKind.i64 ((acc : Int) * 128) (wrap64 (bits BinOp.andNot IntKind.u8 (x : Int) 128)) = ((acc * 128 + x % 128 : Nat) : Int) := by
  have e1 := notFin ⟨x, hx⟩
  dsimp only at e1
  have hm : x % 128 < 128 := Nat.mod_lt _ (by omega)
  rw [e1]
  generalize x % 128 = m at *
  have e2 : wrap64 ((m : Nat) : Int) = ((m : Nat) : Int) := by unfold wrap64; omega
  rw [e2]
  have e3 : (acc * 128) ||| m = acc * 128 + m := by
    have := Nat.two_pow_add_eq_or_of_lt (b := m) (i := 7) hm acc
    rw [show acc * 128 = 2 ^ 7 * acc by omega]
    exact this.symm
  have e4 := or64 (acc * 128) m (by omega) (by omega)
  rw [e3] at e4
  rw [← e4]
  simp
theorem rd_nil (most : Int) (acc : Nat) : rdL most acc [] = none := rfl
theorem rd_over {most : Int} {acc x : Nat} (r : List Nat) (h : ¬ ((acc * 128 + x % 128 : Nat) : Int) ≤ most) : rdL most acc (x :: r) = none := by
  rw [rdL, if_pos (by omega)]
theorem rd_end {most : Int} {acc x : Nat} (r : List Nat) (h : ((acc * 128 + x % 128 : Nat) : Int) ≤ most) (hx : x < 128) : rdL most acc (x :: r) = some (acc * 128 + x % 128, r) := by
  rw [rdL, if_neg (by omega), if_pos hx]
theorem rd_zero {most : Int} {acc x : Nat} (r : List Nat) (h : ((acc * 128 + x % 128 : Nat) : Int) ≤ most) (hx : ¬ x < 128) (h0 : acc * 128 + x % 128 = 0) : rdL most acc (x :: r) = none := by
  rw [rdL, if_neg (by omega), if_neg hx, if_pos h0]
theorem rd_more {most : Int} {acc x : Nat} (r : List Nat) (h : ((acc * 128 + x % 128 : Nat) : Int) ≤ most) (hx : ¬ x < 128) (h0 : acc * 128 + x % 128 ≠ 0) : rdL most acc (x :: r) = rdL most (acc * 128 + x % 128) r := by
  rw [rdL, if_neg (by omega), if_neg hx, if_neg h0]
set_option maxRecDepth 100000 in
set_option maxHeartbeats 8000000 in
theorem number_any2 (Bx : Nat) (most : Int) (hm : most ≤ 9007199254740992) (xs : List Nat) (w : World) (h : Rd w Bx xs) :
    Calls Try.prog 22 #[.pointer (some ⟨Bx, 0, none⟩), .int .i64 most] w (NumEnd most 0 xs Bx w) := by
  have HR := Lib.hid h
  clear h
  go_enter Try.func22, Try.ntmps22
  go_wp2_with fail
  go_loopw [5, 6] (fun n _ wr => ∃ (acc : Nat) (ys : List Nat), n = .int .i64 acc ∧ rdL most acc ys = rdL most 0 xs ∧ Rd wr Bx ys ∧ Kp Bx w wr ∧ (acc : Int) ≤ 9007199254740992) (fun _ _ wr => leftN wr Bx)
  case atStart => exact ⟨0, xs, rfl, rfl, HR.out, Kp.refl _ _, by omega⟩
  case round =>
    obtain ⟨acc, ys, rfl, he, hrd, hk, ha⟩ := hrel
    have HE := Lib.hid he
    have HK := Lib.hid hk
    have HRd := Lib.hid hrd
    obtain ⟨A, c, hc, hz, hl, hb⟩ := hrd.c
    clear he hk hrd HR
    rcases ys with _ | ⟨x, r⟩
    · simp only [List.length_nil] at hc
      clear hb hl
      go_wp2_with (go_at_call 24; (with_reducible refine (need_false _).mono ?_); rintro e w1 ⟨rfl, rfl⟩)
      exact ⟨rfl, .inr ⟨HE.out.symm.trans (rd_nil _ _), rfl, HK.out⟩⟩
    · obtain ⟨b, o, rfl, hlt, hcs⟩ := hb.2.2 (by simp)
      have h0 := hcs 0 x rfl
      rw [Nat.add_zero] at h0
      have hx := hb.2.1 x (by simp)
      have HB := Lib.hid hb
      have HO := Lib.hid (orPiece acc x (by omega) hx)
      have HLe := Lib.hid (HRd.out.left)
      clear hb hcs
      simp only [List.length_cons] at hc hl
      obtain ⟨a, hae⟩ : ∃ a, a = acc * 128 + x % 128 := ⟨_, rfl⟩
      have HT : Hid (∀ A' c', (r ≠ [] → A' = some ⟨b, o + 1, none⟩) → r.length ≤ c' → Rd (wr.setCell ⟨Bx, 0, none⟩ (.slice A' r.length c')) Bx r) := Lib.hid fun A' c' h1 h2 => HRd.out.set (HB.out.tail h1) h2
      have HK2 : Hid (∀ v, Kp Bx w (wr.setCell ⟨Bx, 0, none⟩ v)) := Lib.hid fun v => HK.out.trans (Kp.set _ _ _ _)
      have HQ1 := Lib.hid (fun h => HE.out.symm.trans (rd_over (most := most) (acc := acc) (x := x) r h))
      have HQ2 := Lib.hid (fun h h2 => HE.out.symm.trans (rd_end (most := most) (acc := acc) (x := x) r h h2))
      have HQ3 := Lib.hid (fun h h2 h3 => HE.out.symm.trans (rd_zero (most := most) (acc := acc) (x := x) r h h2 h3))
      have HQ4 := Lib.hid (fun h h2 h3 => (rd_more (most := most) (acc := acc) (x := x) r h h2 h3).symm.trans HE.out)
      rw [← hae] at HO HQ1 HQ2 HQ3 HQ4
      have ho := HO.out
      clear hae HE HO HB
      have hR : c = 1 → r = [] := fun e => List.length_eq_zero_iff.1 (by omega)
      have HT1 : Hid (c = 1 → Rd (wr.setCell ⟨Bx, 0, none⟩ (.slice (some ⟨b, o, none⟩) r.length 0)) Bx r) := Lib.hid fun e => HT.out _ _ (fun h => absurd (hR e) h) (by omega)
      have HT2 : Hid (Rd (wr.setCell ⟨Bx, 0, none⟩ (.slice (some ⟨b, o + 1, none⟩) r.length (c - 1))) Bx r) := Lib.hid (HT.out _ _ (fun h => rfl) (by omega))
      clear hR HT
      by_cases hc1 : c = 1
      all_goals by_cases h1 : (a : Int) ≤ most
      all_goals first
        | (have z := HQ1.out h1
           have z1 : decide ((a : Int) ≤ most) = false := decide_eq_false h1
           have Z := Lib.hid z
           clear z h1
           go_wp2_with (first
            | (go_at_call 24; (with_reducible refine (need_true _).mono ?_); rintro e w1 ⟨rfl, rfl⟩)
            | (go_at_call 24; (with_reducible refine (need_false _).mono ?_); rintro e w1 ⟨rfl, rfl⟩))
           exact ⟨rfl, .inr ⟨Z.out, rfl, HK2.out _⟩⟩
           done)
        | skip
      all_goals by_cases h2 : x < 128
      all_goals first
        | (have z := HQ2.out h1 h2
           have Z := Lib.hid z
           clear z
           go_wp2_with (first
            | (go_at_call 24; (with_reducible refine (need_true _).mono ?_); rintro e w1 ⟨rfl, rfl⟩)
            | (go_at_call 24; (with_reducible refine (need_false _).mono ?_); rintro e w1 ⟨rfl, rfl⟩))
           go_ret
           exact .inl ⟨a, r, Z.out, rfl, (by first | exact HT2.out | exact HT1.out rfl | exact HT1.out hc1), HK2.out _⟩)
        | skip
      all_goals by_cases h3 : 0 < a
      all_goals first
        | (have Z := Lib.hid (HQ3.out h1 h2 (by omega))
           go_wp2_with (first
            | (go_at_call 24; (with_reducible refine (need_true _).mono ?_); rintro e w1 ⟨rfl, rfl⟩)
            | (go_at_call 24; (with_reducible refine (need_false _).mono ?_); rintro e w1 ⟨rfl, rfl⟩))
           exact ⟨rfl, .inr ⟨Z.out, rfl, HK2.out _⟩⟩
           done)
        | skip
      all_goals
        have Z := Lib.hid (HQ4.out h1 h2 (by omega))
        have HA := Lib.hid (show (a : Int) ≤ 9007199254740992 by omega)
        go_wp2_with (first
            | (go_at_call 24; (with_reducible refine (need_true _).mono ?_); rintro e w1 ⟨rfl, rfl⟩)
            | (go_at_call 24; (with_reducible refine (need_false _).mono ?_); rintro e w1 ⟨rfl, rfl⟩))
        refine ⟨⟨a, r, rfl, Z.out, (by first | exact HT2.out | exact HT1.out rfl | exact HT1.out hc1), HK2.out _, HA.out⟩, ?_⟩
        rw [HLe.out, (show Rd _ Bx r by first | exact HT2.out | exact HT1.out rfl | exact HT1.out hc1).left]
        simp
end Go.Proofs.Ythpfaaindkkpcaa
