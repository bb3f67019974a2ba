/- An act as plain data; its bytes. -/
import Derived.Test.YtmeijienfdefjaaDAwake
namespace Go.Proofs.Ytmeijienfdefjaa
open Go.RowKit

structure ActD where
  kind : Int
  at_ : Int
  len : Int
  b : Nat
  fA : Option Addr
  fL : Nat
  fC : Nat
  fa : Nat → Int
def ActD.cells (x : ActD) : Array Value := #[.int .i64 x.kind, .int .i64 x.at_, .int .i64 x.len, .int .u8 (x.b : Int), .slice x.fA x.fL x.fC]
structure ActD.ok (w : World) (x : ActD) : Prop where
  k : -9223372036854775808 ≤ x.kind ∧ x.kind ≤ 9223372036854775807
  a : -9223372036854775808 ≤ x.at_ ∧ x.at_ ≤ 9223372036854775807
  l : -9223372036854775808 ≤ x.len ∧ x.len ≤ 9223372036854775807
  b : x.b < 256
  f : Ints w x.fA x.fL x.fa
  c : x.fA = none → x.fL = 0 ∧ x.fC = 0

def lenN (x : ActD) (size : Nat) : Nat := if x.len < 0 ∨ 5000 < x.len then size else x.len.toNat
def actF (b n i : Nat) : Nat := if 1 < n ∧ i = n - 1 then (b + 1) % 256 else b
theorem actF_lt {b : Nat} (h : b < 256) (n i : Nat) : actF b n i < 256 := by unfold actF; split <;> omega

end Go.Proofs.Ytmeijienfdefjaa
