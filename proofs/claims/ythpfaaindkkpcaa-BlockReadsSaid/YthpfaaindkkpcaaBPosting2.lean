/- the reader: posting, every ending. -/
import Derived.Test.YthpfaaindkkpcaaBPosting
namespace Go.Proofs.Ythpfaaindkkpcaa
open Go.RowKit Go.Maps
set_option linter.unusedVariables false
set_option linter.unusedSimpArgs false

theorem Kp.alloc {Bx : Nat} {w w' : World} (h : Kp Bx w w') (hlt : Bx < w'.heap.size) (o : Obj) : Kp Bx w (w'.alloc o) := h.trans (Kp.of ((Below.refl _ _).alloc (Nat.le_refl _) _) hlt)
/-- A store into a block of the call's own. -/
theorem Kp.put {Bx : Nat} {w w' : World} (h : Kp Bx w w') {P o : Nat} (hp : w.heap.size ≤ P) (hlt : Bx < w.heap.size) (v : Value) : Kp Bx w (w'.setCell ⟨P, o, none⟩ v) := by
  have hb : Below P w' (w'.setCell ⟨P, o, none⟩ v) := (Below.refl P w').setCell (p := ⟨P, o, none⟩) (Nat.le_refl _) _
  exact ⟨h.1.trans (hb.mono (by omega)), fun g g1 g2 => (hb.block g (by omega)).trans (h.2 g g1 g2)⟩
set_option maxRecDepth 100000 in
set_option maxHeartbeats 8000000 in
theorem posting_no1 (Bx : Nat) (row : Int) (h1 : -1 ≤ row) (h2 : row ≤ 9007199254740992) (xs : List Nat) (w : World) (h : Rd w Bx xs) (ha : abL row 9007199254740992 xs = none) :
    Calls Try.prog 23 #[.pointer (some ⟨Bx, 0, none⟩), .int .i64 row] w (PostEnd row xs Bx w) := by
  have HZ : Hid (postL row xs = none) := Lib.hid (by unfold postL; rw [ha])
  have HA := Lib.hid (above_no ha h1 h2 (by omega) (by omega) (w.alloc (.cells #[.int .i64 0, .int .i64 0, .slice none 0 0] 48)) (h.keep ((Below.refl _ _).alloc (Nat.le_refl _) _)))
  have HLb := Lib.hid h.lt
  clear ha h h1 h2
  go_enter Try.func23, Try.ntmps23
  go_wp2_with (first
    | (go_at_call 30; (with_reducible refine HA.out.mono ?_); rintro e w1 ⟨rfl, hk⟩; have K1 := Lib.hid hk; clear hk))
  exact ⟨rfl, .inr ⟨HZ.out, rfl, ((Kp.refl _ _).alloc HLb.out _).trans K1.out⟩⟩
set_option maxRecDepth 100000 in
set_option maxHeartbeats 8000000 in
theorem posting_no2 (Bx : Nat) (row : Int) (h1 : -1 ≤ row) (h2 : row ≤ 9007199254740992) (xs : List Nat) (w : World) (h : Rd w Bx xs) (a : Int) (r1 : List Nat) (ha : abL row 9007199254740992 xs = some (a, r1)) (hl : abL 0 1048576 r1 = none) :
    Calls Try.prog 23 #[.pointer (some ⟨Bx, 0, none⟩), .int .i64 row] w (PostEnd row xs Bx w) := by
  have HZ : Hid (postL row xs = none) := Lib.hid (by unfold postL; rw [ha]; dsimp only; rw [hl])
  have HA := Lib.hid (above_yes ha h1 h2 (by omega) (by omega) (w.alloc (.cells #[.int .i64 0, .int .i64 0, .slice none 0 0] 48)) (h.keep ((Below.refl _ _).alloc (Nat.le_refl _) _)))
  have HLb := Lib.hid h.lt
  have HL : Hid (∀ w, Rd w Bx r1 → _) := Lib.hid (fun w hw => above_no (Bx := Bx) hl (by omega) (by omega) (by omega) (by omega) w hw)
  clear ha hl h h1 h2
  go_enter Try.func23, Try.ntmps23
  go_wp2_with (first
    | (go_at_call 30; (with_reducible refine HA.out.mono ?_); rintro e w1 ⟨rfl, hr, hk⟩; have K1 := Lib.hid hk; have R1 := Lib.hid hr; clear hr hk)
    | (go_at_call 30; (with_reducible refine (HL.out _ (R1.out.keep ((Below.refl _ _).alloc (Nat.le_refl _) _))).mono ?_); rintro e w2 ⟨rfl, hk⟩; have K2 := Lib.hid hk; clear hk))
  exact ⟨rfl, .inr ⟨HZ.out, rfl, ((((Kp.refl _ _).alloc HLb.out _).trans K1.out).alloc R1.out.lt _).trans K2.out⟩⟩
set_option maxRecDepth 100000 in
set_option maxHeartbeats 8000000 in
theorem posting_no3 (Bx : Nat) (row : Int) (h1 : -1 ≤ row) (h2 : row ≤ 9007199254740992) (xs : List Nat) (w : World) (h : Rd w Bx xs) (a l : Int) (r1 r2 : List Nat) (ha : abL row 9007199254740992 xs = some (a, r1)) (hl : abL 0 1048576 r1 = some (l, r2)) (hn : abL 0 l r2 = none) :
    Calls Try.prog 23 #[.pointer (some ⟨Bx, 0, none⟩), .int .i64 row] w (PostEnd row xs Bx w) := by
  have HZ : Hid (postL row xs = none) := Lib.hid (by unfold postL; rw [ha]; dsimp only; rw [hl]; dsimp only; rw [hn])
  have HA := Lib.hid (above_yes ha h1 h2 (by omega) (by omega) (w.alloc (.cells #[.int .i64 0, .int .i64 0, .slice none 0 0] 48)) (h.keep ((Below.refl _ _).alloc (Nat.le_refl _) _)))
  have HLb := Lib.hid h.lt
  have hlb := ab_le hl
  have HL : Hid (∀ w, Rd w Bx r1 → _) := Lib.hid (fun w hw => above_yes (Bx := Bx) hl (by omega) (by omega) (by omega) (by omega) w hw)
  have HN : Hid (∀ w, Rd w Bx r2 → _) := Lib.hid (fun w hw => above_no (Bx := Bx) hn (by omega) (by omega) (by omega) (by omega) w hw)
  clear ha hl hn h h1 h2
  go_enter Try.func23, Try.ntmps23
  go_wp2_with (first
    | (go_at_call 30; (with_reducible refine HA.out.mono ?_); rintro e w1 ⟨rfl, hr, hk⟩; have K1 := Lib.hid hk; have R1 := Lib.hid hr; clear hr hk)
    | (go_at_call 30; (with_reducible refine (HL.out _ (R1.out.keep ((Below.refl _ _).alloc (Nat.le_refl _) _))).mono ?_); rintro e w2 ⟨rfl, hr, hk⟩; have K2 := Lib.hid hk; have R2 := Lib.hid hr; have hpb := PB.keep (heap_alloc_new w1 _) hk (R1.out.lt); have hc1 := hpb.c 1; have hz1 := hpb.z 1; have PB2 := Lib.hid hpb; clear hr hk hpb)
    | (go_at_call 30; (with_reducible refine (HN.out _ (R2.out.other ((Below.refl _ _).setCell (p := ⟨w1.heap.size, 1, none⟩) (Nat.succ_le_of_lt R1.out.lt) _))).mono ?_); rintro e w3 ⟨rfl, hk⟩; have K3 := Lib.hid hk; clear hk hc1 hz1))
  have s1 : w.heap.size ≤ w1.heap.size := by have := K1.out.1.size; rw [World.size_alloc] at this; omega
  exact ⟨rfl, .inr ⟨HZ.out, rfl, ((((((Kp.refl _ _).alloc HLb.out _).trans K1.out).alloc R1.out.lt _).trans K2.out).put s1 HLb.out _).trans K3.out⟩⟩
set_option maxRecDepth 100000 in
set_option maxHeartbeats 8000000 in
theorem posting_no4 (Bx : Nat) (row : Int) (h1 : -1 ≤ row) (h2 : row ≤ 9007199254740992) (xs : List Nat) (w : World) (h : Rd w Bx xs) (a l : Int) (n : Nat) (r1 r2 r3 : List Nat) (ha : abL row 9007199254740992 xs = some (a, r1)) (hl : abL 0 1048576 r1 = some (l, r2)) (hn : abL 0 l r2 = some ((n : Int), r3)) (hle : ¬ n ≤ r3.length) :
    Calls Try.prog 23 #[.pointer (some ⟨Bx, 0, none⟩), .int .i64 row] w (PostEnd row xs Bx w) := by
  have HZ : Hid (postL row xs = none) := Lib.hid (by unfold postL; rw [ha]; dsimp only; rw [hl]; dsimp only; rw [hn]; dsimp only; rw [if_neg (by omega)])
  have HA := Lib.hid (above_yes ha h1 h2 (by omega) (by omega) (w.alloc (.cells #[.int .i64 0, .int .i64 0, .slice none 0 0] 48)) (h.keep ((Below.refl _ _).alloc (Nat.le_refl _) _)))
  have HLb := Lib.hid h.lt
  have hlb := ab_le hl
  have HL : Hid (∀ w, Rd w Bx r1 → _) := Lib.hid (fun w hw => above_yes (Bx := Bx) hl (by omega) (by omega) (by omega) (by omega) w hw)
  have HN : Hid (∀ w, Rd w Bx r2 → _) := Lib.hid (fun w hw => above_yes (Bx := Bx) hn (by omega) (by omega) (by omega) (by omega) w hw)
  have hd : decide ((n : Int) ≤ (r3.length : Int)) = false := decide_eq_false (by omega)
  have hd2 : decide (n ≤ r3.length) = false := decide_eq_false (by omega)
  clear ha hl hn h h1 h2 hle
  go_enter Try.func23, Try.ntmps23
  go_wp2_with (first
    | (go_at_call 30; (with_reducible refine HA.out.mono ?_); rintro e w1 ⟨rfl, hr, hk⟩; have K1 := Lib.hid hk; have R1 := Lib.hid hr; clear hr hk)
    | (go_at_call 30; (with_reducible refine (HL.out _ (R1.out.keep ((Below.refl _ _).alloc (Nat.le_refl _) _))).mono ?_); rintro e w2 ⟨rfl, hr, hk⟩; have K2 := Lib.hid hk; have R2 := Lib.hid hr; have hpb := PB.keep (heap_alloc_new w1 _) hk (R1.out.lt); have hc1 := hpb.c 1; have hz1 := hpb.z 1; have PB2 := Lib.hid hpb; clear hr hk hpb)
    | (go_at_call 30; (with_reducible refine (HN.out _ (R2.out.other ((Below.refl _ _).setCell (p := ⟨w1.heap.size, 1, none⟩) (Nat.succ_le_of_lt R1.out.lt) _))).mono ?_); rintro e w3 ⟨rfl, hr, hk⟩; have K3 := Lib.hid hk; have R3 := Lib.hid hr; obtain ⟨A, c, hcx, _, _⟩ := hr.c; clear hr hk hc1 hz1)
    | (go_at_call 24; (with_reducible refine (need_false _).mono ?_); rintro e w4 ⟨rfl, rfl⟩))
  have s1 : w.heap.size ≤ w1.heap.size := by have := K1.out.1.size; rw [World.size_alloc] at this; omega
  exact ⟨rfl, .inr ⟨HZ.out, rfl, ((((((Kp.refl _ _).alloc HLb.out _).trans K1.out).alloc R1.out.lt _).trans K2.out).put s1 HLb.out _).trans K3.out⟩⟩
theorem posting_any (Bx : Nat) (row : Int) (h1 : -1 ≤ row) (h2 : row ≤ 9007199254740992) (xs : List Nat) (w : World) (h : Rd w Bx xs) :
    Calls Try.prog 23 #[.pointer (some ⟨Bx, 0, none⟩), .int .i64 row] w (PostEnd row xs Bx w) := by
  cases ha : abL row 9007199254740992 xs with
  | none => exact posting_no1 Bx row h1 h2 xs w h ha
  | some p =>
    obtain ⟨a, r1⟩ := p
    cases hl : abL 0 1048576 r1 with
    | none => exact posting_no2 Bx row h1 h2 xs w h a r1 ha hl
    | some p =>
      obtain ⟨l, r2⟩ := p
      cases hn : abL 0 l r2 with
      | none => exact posting_no3 Bx row h1 h2 xs w h a l r1 r2 ha hl hn
      | some p =>
        obtain ⟨n', r3⟩ := p
        have hnb := ab_le hn
        obtain ⟨n, rfl⟩ : ∃ n : Nat, n' = n := ⟨n'.toNat, by omega⟩
        by_cases hle : n ≤ r3.length
        · exact posting_yes Bx row h1 h2 xs w h a l n r1 r2 r3 ha hl hn hle
        · exact posting_no4 Bx row h1 h2 xs w h a l n r1 r2 r3 ha hl hn hle
end Go.Proofs.Ythpfaaindkkpcaa
