/- GeomRects: the walk of at most 100 points. -/
import Derived.Test.YtehmdokcdnlcdaaGRectsT
import Derived.Test.YtehmdokcdnlcdaaGRectsF
namespace Go.Proofs.Ytehmdokcdnlcdaa
open Go.RowKit
set_option linter.unusedVariables false

theorem rects_main (A : Option Addr) (n c : Nat) (F : Nat → Pt) (r s : Rc) (w : World) (h100 : n ≤ 100) (ok x y ov : Bool) (b j : Rc)
    (HP : Hid (Pts w A n F)) (HN : Hid (A = none → c = 0))
    (KB : Hid (∀ (base : Nat) (A' : Option Addr) (c' : Nat) (W : World), OwnP W base A' n c' F → Calls Try.prog 24 #[.slice A' n c'] W fun e w' => e = .returned (.tuple #[.agg #[.int .i64 b.x0, .int .i64 b.y0, .int .i64 b.x1, .int .i64 b.y1], .bool ok]) ∧ Below W.heap.size W w'))
    (KL : Hid (0 < n → ∀ W : World, Below w.heap.size w W → Calls Try.prog 10 #[.slice A n c] W fun e w' => e = .returned (.bool ok) ∧ Below W.heap.size W w'))
    (HZ : Hid (n = 0 → ok = false))
    (KR : Hid (ok = true → ∀ W : World, Below w.heap.size w W → Calls Try.prog 25 #[.slice A n c] W fun e w' => e = .returned (.agg #[.int .i64 b.x0, .int .i64 b.y0, .int .i64 b.x1, .int .i64 b.y1]) ∧ Below W.heap.size W w'))
    (HB0 : Hid (ok = false → b = zeroR))
    (KX : Hid (∀ W : World, Calls Try.prog 26 #[.agg #[.int .i64 r.x0, .int .i64 r.y0, .int .i64 r.x1, .int .i64 r.y1]] W fun e w' => e = .returned (.bool x) ∧ Below W.heap.size W w'))
    (KY : Hid (∀ W : World, Calls Try.prog 26 #[.agg #[.int .i64 s.x0, .int .i64 s.y0, .int .i64 s.x1, .int .i64 s.y1]] W fun e w' => e = .returned (.bool y) ∧ Below W.heap.size W w'))
    (GX : Hid (∀ W : World, Calls Try.prog 27 #[.agg #[.int .i64 r.x0, .int .i64 r.y0, .int .i64 r.x1, .int .i64 r.y1]] W fun e w' => e = .returned (.bool x) ∧ Below W.heap.size W w'))
    (GY : Hid (∀ W : World, Calls Try.prog 27 #[.agg #[.int .i64 s.x0, .int .i64 s.y0, .int .i64 s.x1, .int .i64 s.y1]] W fun e w' => e = .returned (.bool y) ∧ Below W.heap.size W w'))
    (GO : Hid (∀ W : World, Calls Try.prog 28 #[.agg #[.int .i64 r.x0, .int .i64 r.y0, .int .i64 r.x1, .int .i64 r.y1], .agg #[.int .i64 s.x0, .int .i64 s.y0, .int .i64 s.x1, .int .i64 s.y1]] W fun e w' => e = .returned (.bool ov) ∧ Below W.heap.size W w'))
    (KO : Hid (x = true → y = true → ∀ W : World, Calls Try.prog 29 #[.agg #[.int .i64 r.x0, .int .i64 r.y0, .int .i64 r.x1, .int .i64 r.y1], .agg #[.int .i64 s.x0, .int .i64 s.y0, .int .i64 s.x1, .int .i64 s.y1]] W fun e w' => e = .returned (.bool ov) ∧ Below W.heap.size W w'))
    (HO : Hid (x = false ∨ y = false → ov = false))
    (GJ : Hid (∀ W : World, Calls Try.prog 30 #[.agg #[.int .i64 r.x0, .int .i64 r.y0, .int .i64 r.x1, .int .i64 r.y1], .agg #[.int .i64 s.x0, .int .i64 s.y0, .int .i64 s.x1, .int .i64 s.y1]] W fun e w' => e = .returned (.agg #[.int .i64 j.x0, .int .i64 j.y0, .int .i64 j.x1, .int .i64 j.y1]) ∧ Below W.heap.size W w'))
    (KJ : Hid (x = true → y = true → ∀ W : World, Calls Try.prog 31 #[.agg #[.int .i64 r.x0, .int .i64 r.y0, .int .i64 r.x1, .int .i64 r.y1], .agg #[.int .i64 s.x0, .int .i64 s.y0, .int .i64 s.x1, .int .i64 s.y1]] W fun e w' => e = .returned (.agg #[.int .i64 j.x0, .int .i64 j.y0, .int .i64 j.x1, .int .i64 j.y1]) ∧ Below W.heap.size W w'))
    (HJ0 : Hid (x = false ∨ y = false → j = zeroR))
    (KM : Hid (∀ (p : Pt) (W : World), Calls Try.prog 11 #[.agg #[.int .i64 p.x, .int .i64 p.y]] W fun e w' => e = .returned (.bool (mayB p)) ∧ Below W.heap.size W w'))
    (GH : Hid (∀ (p : Pt) (W : World), Calls Try.prog 34 #[.agg #[.int .i64 r.x0, .int .i64 r.y0, .int .i64 r.x1, .int .i64 r.y1], .agg #[.int .i64 p.x, .int .i64 p.y]] W fun e w' => e = .returned (.bool (ovB r (justR p))) ∧ Below W.heap.size W w'))
    (KH : Hid (x = true → ∀ (p : Pt), mayB p = true → ∀ W : World, Calls Try.prog 35 #[.agg #[.int .i64 r.x0, .int .i64 r.y0, .int .i64 r.x1, .int .i64 r.y1], .agg #[.int .i64 p.x, .int .i64 p.y]] W fun e w' => e = .returned (.bool (ovB r (justR p))) ∧ Below W.heap.size W w'))
    (HH : Hid (∀ p : Pt, mayB p = false ∨ x = false → ovB r (justR p) = false))
    (GN : Hid (∀ (p : Pt) (W : World), Calls Try.prog 36 #[.agg #[.int .i64 r.x0, .int .i64 r.y0, .int .i64 r.x1, .int .i64 r.y1], .agg #[.int .i64 p.x, .int .i64 p.y]] W fun e w' => e = .returned (.int .u64 (nearI r p)) ∧ Below W.heap.size W w'))
    (KN : Hid (x = true → ∀ (p : Pt), mayB p = true → ∀ W : World, Calls Try.prog 32 #[.agg #[.int .i64 r.x0, .int .i64 r.y0, .int .i64 r.x1, .int .i64 r.y1], .agg #[.int .i64 p.x, .int .i64 p.y]] W fun e w' => e = .returned (.int .u64 (nearI r p)) ∧ Below W.heap.size W w'))
    (HNr : Hid (∀ p : Pt, mayB p = false ∨ x = false → nearI r p = 0))
    (GD : Hid (∀ (p q : Pt) (W : World), Calls Try.prog 37 #[.agg #[.int .i64 p.x, .int .i64 p.y], .agg #[.int .i64 q.x, .int .i64 q.y]] W fun e w' => e = .returned (.int .u64 (distI p q)) ∧ Below W.heap.size W w'))
    (KD : Hid (∀ (p q : Pt), mayB p = true → mayB q = true → ∀ W : World, Calls Try.prog 33 #[.agg #[.int .i64 p.x, .int .i64 p.y], .agg #[.int .i64 q.x, .int .i64 q.y]] W fun e w' => e = .returned (.int .u64 (distI p q)) ∧ Below W.heap.size W w'))
    (HD : Hid (∀ p q : Pt, mayB p = false ∨ mayB q = false → distI p q = 0)) :
    Calls Try.prog 5 #[.slice A n c, .agg #[.int .i64 r.x0, .int .i64 r.y0, .int .i64 r.x1, .int .i64 r.y1], .agg #[.int .i64 s.x0, .int .i64 s.y0, .int .i64 s.x1, .int .i64 s.y1]] w fun e w' => e = .returned (.bool true) ∧ Below w.heap.size w w' := by
  by_cases hx : x = true
  · exact rects_mainT A n c F r s w h100 ok x y ov b j HP HN KB KL HZ KR HB0 KX KY GX GY GO KO HO GJ KJ HJ0 KM GH KH HH GN KN HNr GD KD HD hx
  · exact rects_mainF A n c F r s w h100 ok x y ov b j HP HN KB KL HZ KR HB0 KX KY GX GY GO KO HO GJ KJ HJ0 KM GH KH HH GN KN HNr GD KD HD (by simpa using hx)
end Go.Proofs.Ytehmdokcdnlcdaa
