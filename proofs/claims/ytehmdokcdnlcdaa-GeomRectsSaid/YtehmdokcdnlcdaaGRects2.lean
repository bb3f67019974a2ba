/- GeomRects: the walk, put together. -/
import Derived.Test.YtehmdokcdnlcdaaGRectsM
import Derived.Test.YtehmdokcdnlcdaaGJoin
namespace Go.Proofs.Ytehmdokcdnlcdaa
open Go.RowKit
set_option linter.unusedVariables false

def bOk2 (F : Nat → Pt) (n : Nat) : Bool := decide (0 < n) && allB F n
def bR2 (F : Nat → Pt) (n : Nat) : Rc := if bOk2 F n then boundsN F n else zeroR
theorem bounds_any2 (A : Option Addr) (n c : Nat) (F : Nat → Pt) (w : World) (hP : Pts w A n F) (hnc : n ≤ c) (hcm : c ≤ 9223372036854775807) : Calls Try.prog 24 #[.slice A n c] w fun e w' => e = .returned (.tuple #[vR (bR2 F n), .bool (bOk2 F n)]) ∧ Below w.heap.size w w' := by
  unfold bR2
  cases h : bOk2 F n
  · refine bounds_no A n c F w hP ?_
    unfold bOk2 at h
    rcases Nat.eq_zero_or_pos n with h0 | h0
    · exact .inl h0
    · rw [decide_eq_true h0] at h; exact .inr h
  · unfold bOk2 at h
    rw [Bool.and_eq_true, decide_eq_true_eq] at h
    exact bounds_yes A n c F w hP hnc hcm h.1 h.2
theorem mayRB_yes {r : Rc} (h : mayRB r = true) : MayR r := of_decide_eq_true h
theorem mayRB_no {r : Rc} (h : mayRB r = false) : ¬ MayR r := of_decide_eq_false h
theorem mayB_yes {p : Pt} (h : mayB p = true) : MayP p := of_decide_eq_true h
theorem mayB_no {p : Pt} (h : mayB p = false) : ¬ MayP p := of_decide_eq_false h
theorem ov_eq {r s : Rc} (hr : MayR r) (hs : MayR s) : decide (OvP r s) = ovB r s := decide_eq_decide.2 ⟨fun h => ⟨hr, hs, h⟩, fun h => h.2.2⟩
theorem just_of {p : Pt} (h : MayR (justR p)) : MayP p := h.1
set_option maxHeartbeats 1000000 in
theorem geomRects_walk (x : Sl) (r s : Rc) (w : World) (hs : SlOk w x) : Calls Try.prog 5 #[.slice x.A x.n x.c, .agg #[.int .i64 r.x0, .int .i64 r.y0, .int .i64 r.x1, .int .i64 r.y1], .agg #[.int .i64 s.x0, .int .i64 s.y0, .int .i64 s.x1, .int .i64 s.y1]] w fun e w' => e = .returned (.bool true) ∧ Below w.heap.size w w' := by
  obtain ⟨A, n, c, F⟩ := x
  obtain ⟨s1, s2, s3, s4⟩ := hs
  dsimp only at s1 s2 s3 s4 ⊢
  by_cases h : n ≤ 100
  case neg => exact rects_big A n c r s w h (by omega)
  have hok : 0 < n → bOk2 F n = allB F n := fun h0 => by unfold bOk2; rw [decide_eq_true h0]; simp
  refine rects_main A n c F r s w h (bOk2 F n) (mayRB r) (mayRB s) (ovB r s) (bR2 F n) (joinG r s) (Lib.hid s3) (Lib.hid s4)
    (Lib.hid fun base A' c' W ho => bounds_any2 A' n c' F W (OwnP.pts ho) ho.2.1 ho.2.2.1)
    (Lib.hid fun h0 W l => by rw [hok h0]; exact refAll_any A n c F W (s3.keep l))
    (Lib.hid fun h0 => by unfold bOk2; rw [h0]; rfl)
    (Lib.hid fun hk W l => ?_)
    (Lib.hid fun hk => by unfold bR2; rw [hk]; rfl)
    (Lib.hid fun W => refMayRect_any r W) (Lib.hid fun W => refMayRect_any s W) (Lib.hid fun W => mayRect_any r W) (Lib.hid fun W => mayRect_any s W)
    (Lib.hid fun W => overlap_any r s W)
    (Lib.hid fun hx hy W => by rw [← ov_eq (mayRB_yes hx) (mayRB_yes hy)]; exact refOverlap_any r s W)
    (Lib.hid fun ho => decide_eq_false fun k => by rcases ho with e | e; exact mayRB_no e k.1; exact mayRB_no e k.2.1)
    (Lib.hid fun W => joinG_any r s W)
    (Lib.hid fun hx hy W => by
      have e : joinG r s = joinR r s := by unfold joinG; rw [hx, hy]; rfl
      rw [e]; exact refJoin_any r s W)
    (Lib.hid fun ho => by unfold joinG; rcases ho with e | e <;> rw [e] <;> simp)
    (Lib.hid fun p W => refMay_any p W)
    (Lib.hid fun p W => holds_any r p W)
    (Lib.hid fun hx p hp W => by rw [← ov_eq (mayRB_yes hx) (just_may (mayB_yes hp))]; exact refHolds_any r p W)
    (Lib.hid fun p ho => decide_eq_false fun k => by rcases ho with e | e; exact mayB_no e (just_of k.2.1); exact mayRB_no e k.1)
    (Lib.hid fun p W => near_any r p W)
    (Lib.hid fun hx p hp W => refNear_any r p (mayRB_yes hx) (mayB_yes hp) W)
    (Lib.hid fun p ho => ?_)
    (Lib.hid fun p q W => dist_any p q W)
    (Lib.hid fun p q hp hq W => refDist_any p q ⟨mayB_yes hp, mayB_yes hq⟩ W)
    (Lib.hid fun p q ho => by
      unfold distI
      rw [if_neg fun k => by rcases ho with e | e; exact mayB_no e k.1; exact mayB_no e k.2])
  · have h0 : 0 < n := by
      unfold bOk2 at hk
      rw [Bool.and_eq_true, decide_eq_true_eq] at hk
      exact hk.1
    have e : bR2 F n = boundsN F n := by unfold bR2; rw [hk]; rfl
    rw [e]
    exact refBounds_any A n c F W (s3.keep l) s1 h0
  · unfold nearI
    rcases ho with e | e
    · split
      · unfold distI
        rw [if_neg fun k => mayB_no e k.1]
      · rfl
    · rw [e]; rfl
end Go.Proofs.Ytehmdokcdnlcdaa
