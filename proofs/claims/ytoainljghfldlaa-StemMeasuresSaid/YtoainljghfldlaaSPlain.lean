/- stem: vowels, measures, ends, steps, stems: plain. -/
import Derived.Test.YtoainljghfldlaaSStr
namespace Go.Proofs.Ytoainljghfldlaa
open Go.RowKit
set_option linter.unusedVariables false
set_option linter.unusedSimpArgs false

def isV (c : Nat) : Bool := c == 97 || (c == 101 || (c == 105 || (c == 111 || c == 117)))
def vwB (c : Nat) (o : Bool) : Bool := isV c || (c == 121 && o)
/-- Which signs of a text are vowels, from a place on. -/
def vowF (l : List UInt8) : Nat → Nat → Bool → List Bool
  | 0, _, _ => []
  | f + 1, p, o => if p < l.length then vwB (dec l p).1 o :: vowF l f (p + (dec l p).2) (!vwB (dec l p).1 o) else []
def vowL (l : List UInt8) : List Bool := vowF l l.length 0 false
theorem vowF_end (l : List UInt8) (f p : Nat) (o : Bool) (h : ¬ p < l.length) : vowF l f p o = [] := by cases f <;> simp [vowF, h]
def mstep (s : Nat × Bool) (is : Bool) : Nat × Bool := (if (s.2 && !is) = true then s.1 + 1 else s.1, is)
def msr (vs : List Bool) : Nat × Bool := vs.foldl mstep (0, false)
def measL (l : List UInt8) : Nat := (msr (vowL l)).1
def hasV (l : List UInt8) : Bool := (vowL l).any id
def endsSoL (l : List UInt8) (are : List Bool) : Bool := decide (are.length ≤ (vowL l).length) && ((vowL l).drop ((vowL l).length - are.length) == are)
def sufB (t e : List UInt8) : Bool := decide (e.length ≤ t.length) && (t.drop (t.length - e.length) == e)
def endsAny (t : List UInt8) (es : List (List UInt8)) : Bool := es.any fun e => sufB t e
def alikeL (t : List UInt8) : Bool := decide (2 ≤ t.length) && (t.getD (t.length - 1) 0 == t.getD (t.length - 2) 0) && endsSoL t [false]
def cvcL (t : List UInt8) : Bool := endsSoL t [false, true, false] && !endsAny t [[119], [120], [121]]
def trimL (t e : List UInt8) : List UInt8 := if sufB t e = true then t.take (t.length - e.length) else t
inductive Ask where
  | always
  | above (m : Nat)
  | voiced
  | behind
  | cvc
def Ask.sem : Ask → List UInt8 → Bool
  | .always, _ => true
  | .above m, a => decide (m < measL a)
  | .voiced, a => hasV a
  | .behind, a => decide (1 < measL a) && endsAny a [[115], [116]]
  | .cvc, a => decide (1 < measL a) || (decide (measL a = 1) && !cvcL a)
structure EndR where
  fr : List UInt8
  to : List UInt8
  ask : Ask
def lenO (o : Option EndR) : Nat := match o with | some r => r.fr.length | none => 0
def pickS (t : List UInt8) (o : Option EndR) (x : EndR) : Option EndR := if (decide (lenO o < x.fr.length) && sufB t x.fr) = true then some x else o
def pickL (t : List UInt8) (rs : List EndR) : Option EndR := rs.foldl (pickS t) none
def turnO (t : List UInt8) : Option EndR → List UInt8 × Bool
  | none => (t, false)
  | some r => if r.ask.sem (trimL t r.fr) = true then (trimL t r.fr ++ r.to, true) else (t, false)
def turnL (t : List UInt8) (rs : List EndR) : List UInt8 × Bool := turnO t (pickL t rs)
def r1a : List EndR := [⟨[115, 115, 101, 115], [115, 115], .always⟩, ⟨[105, 101, 115], [105], .always⟩, ⟨[115, 115], [115, 115], .always⟩, ⟨[115], [], .always⟩]
def r1b : List EndR := [⟨[101, 101, 100], [101, 101], .above 0⟩, ⟨[101, 100], [], .voiced⟩, ⟨[105, 110, 103], [], .voiced⟩]
def r1c : List EndR := [⟨[121], [105], .voiced⟩]
def r2 : List EndR := [⟨[97, 116, 105, 111, 110, 97, 108], [97, 116, 101], .above 0⟩, ⟨[116, 105, 111, 110, 97, 108], [116, 105, 111, 110], .above 0⟩, ⟨[101, 110, 99, 105], [101, 110, 99, 101], .above 0⟩, ⟨[97, 110, 99, 105], [97, 110, 99, 101], .above 0⟩, ⟨[105, 122, 101, 114], [105, 122, 101], .above 0⟩, ⟨[97, 98, 108, 105], [97, 98, 108, 101], .above 0⟩, ⟨[97, 108, 108, 105], [97, 108], .above 0⟩, ⟨[101, 110, 116, 108, 105], [101, 110, 116], .above 0⟩, ⟨[101, 108, 105], [101], .above 0⟩, ⟨[111, 117, 115, 108, 105], [111, 117, 115], .above 0⟩, ⟨[105, 122, 97, 116, 105, 111, 110], [105, 122, 101], .above 0⟩, ⟨[97, 116, 105, 111, 110], [97, 116, 101], .above 0⟩, ⟨[97, 116, 111, 114], [97, 116, 101], .above 0⟩, ⟨[97, 108, 105, 115, 109], [97, 108], .above 0⟩, ⟨[105, 118, 101, 110, 101, 115, 115], [105, 118, 101], .above 0⟩, ⟨[102, 117, 108, 110, 101, 115, 115], [102, 117, 108], .above 0⟩, ⟨[111, 117, 115, 110, 101, 115, 115], [111, 117, 115], .above 0⟩, ⟨[97, 108, 105, 116, 105], [97, 108], .above 0⟩, ⟨[105, 118, 105, 116, 105], [105, 118, 101], .above 0⟩, ⟨[98, 105, 108, 105, 116, 105], [98, 108, 101], .above 0⟩]
def r3 : List EndR := [⟨[105, 99, 97, 116, 101], [105, 99], .above 0⟩, ⟨[97, 116, 105, 118, 101], [], .above 0⟩, ⟨[97, 108, 105, 122, 101], [97, 108], .above 0⟩, ⟨[105, 99, 105, 116, 105], [105, 99], .above 0⟩, ⟨[105, 99, 97, 108], [105, 99], .above 0⟩, ⟨[102, 117, 108], [], .above 0⟩, ⟨[110, 101, 115, 115], [], .above 0⟩]
def r4 : List EndR := [⟨[97, 108], [], .above 1⟩, ⟨[97, 110, 99, 101], [], .above 1⟩, ⟨[101, 110, 99, 101], [], .above 1⟩, ⟨[101, 114], [], .above 1⟩, ⟨[105, 99], [], .above 1⟩, ⟨[97, 98, 108, 101], [], .above 1⟩, ⟨[105, 98, 108, 101], [], .above 1⟩, ⟨[97, 110, 116], [], .above 1⟩, ⟨[101, 109, 101, 110, 116], [], .above 1⟩, ⟨[109, 101, 110, 116], [], .above 1⟩, ⟨[101, 110, 116], [], .above 1⟩, ⟨[105, 111, 110], [], .behind⟩, ⟨[111, 117], [], .above 1⟩, ⟨[105, 115, 109], [], .above 1⟩, ⟨[97, 116, 101], [], .above 1⟩, ⟨[105, 116, 105], [], .above 1⟩, ⟨[111, 117, 115], [], .above 1⟩, ⟨[105, 118, 101], [], .above 1⟩, ⟨[105, 122, 101], [], .above 1⟩]
def r5a : List EndR := [⟨[101], [], .cvc⟩]
def s1aL (t : List UInt8) : List UInt8 := (turnL t r1a).1
def mendL (t : List UInt8) : List UInt8 :=
  if endsAny t [[97, 116], [98, 108], [105, 122]] = true then t ++ [101]
  else if alikeL t = true then (if endsAny t [[108], [115], [122]] = true then t else t.take (t.length - 1))
  else if (decide (measL t = 1) && cvcL t) = true then t ++ [101]
  else t
def s1bL (t : List UInt8) : List UInt8 := if (!(turnL t r1b).2 || sufB t [101, 101, 100]) = true then (turnL t r1b).1 else mendL (turnL t r1b).1
def s1cL (t : List UInt8) : List UInt8 := (turnL t r1c).1
def s2L (t : List UInt8) : List UInt8 := (turnL t r2).1
def s3L (t : List UInt8) : List UInt8 := (turnL t r3).1
def s4L (t : List UInt8) : List UInt8 := (turnL t r4).1
def s5aL (t : List UInt8) : List UInt8 := (turnL t r5a).1
def s5bL (t : List UInt8) : List UInt8 := if (decide (1 < measL t) && sufB t [108, 108]) = true then t.take (t.length - 1) else t
def stepL (k : Nat) (t : List UInt8) : List UInt8 :=
  match k with
  | 0 => s1aL t
  | 1 => s1bL t
  | 2 => s1cL t
  | 3 => s2L t
  | 4 => s3L t
  | 5 => s4L t
  | 6 => s5aL t
  | 7 => s5bL t
  | _ => t
def runL : Nat → List UInt8 → List UInt8
  | 0, t => t
  | k + 1, t => stepL k (runL k t)
def letB (b : UInt8) : Bool := decide (97 ≤ b.toNat) && decide (b.toNat ≤ 122)
def mayB (t : List UInt8) : Bool := t.all letB && decide (3 ≤ t.length)
def stemL (t : List UInt8) : List UInt8 := if mayB t = true then runL 8 t else t
end Go.Proofs.Ytoainljghfldlaa
