/- Wide numbers: plain words, no program. -/
import Derived.WalkKit
import Derived.Lib.Hide
import Derived.IntWalk
namespace Go.Proofs.YtihigingddaopaaDoor
open Go.RowKit
set_option linter.unusedVariables false

/-- The halves of a number, modulo 2^128. -/
def hiW (v : Int) : Int := (v / 18446744073709551616 + 9223372036854775808) % 18446744073709551616 - 9223372036854775808
def loW (v : Int) : Int := v % 18446744073709551616
/-- The number from -2^127 to 2^127 - 1 that is the same modulo 2^128. -/
def svW (v : Int) : Int := hiW v * 18446744073709551616 + loW v
theorem loW_bd (v : Int) : 0 ≤ loW v ∧ loW v < 18446744073709551616 := by unfold loW; omega
theorem hiW_bd (v : Int) : -9223372036854775808 ≤ hiW v ∧ hiW v ≤ 9223372036854775807 := by unfold hiW; omega
theorem hi_of (h l : Int) (h1 : -9223372036854775808 ≤ h) (h2 : h ≤ 9223372036854775807) (l1 : 0 ≤ l) (l2 : l < 18446744073709551616) : hiW (h * 18446744073709551616 + l) = h := by unfold hiW; omega
theorem lo_of (h l : Int) (l1 : 0 ≤ l) (l2 : l < 18446744073709551616) : loW (h * 18446744073709551616 + l) = l := by unfold loW; omega
theorem wrap_i64' (n : Int) : IntKind.i64.wrap n = (n + 9223372036854775808) % 18446744073709551616 - 9223372036854775808 := by
  simp [IntKind.wrap, IntKind.bits, IntKind.signed]
  omega
/-- What is in 64 bits. -/
def In64 (a : Int) : Prop := -9223372036854775808 ≤ a ∧ a ≤ 9223372036854775807
theorem hi_small {n : Int} (h : In64 n) : hiW n = n / 18446744073709551616 := by unfold In64 at h; unfold hiW; omega
theorem wrap64_eq (n : Int) : wrap64 n = (n + 9223372036854775808) % 18446744073709551616 - 9223372036854775808 := by unfold wrap64; omega
theorem plus_hi' (x y c : Int) (hc : c = (loW x + loW y) / 18446744073709551616) : wrap64 (wrap64 (hiW x + hiW y) + c) = hiW (x + y) := by
  subst hc; simp only [wrap64_eq]; unfold hiW loW; omega
theorem less_hi' (x y c : Int) (hc : c = if loW x < loW y then 1 else 0) : wrap64 (wrap64 (hiW x - hiW y) - c) = hiW (x - y) := by
  subst hc; simp only [wrap64_eq]; unfold hiW loW; split <;> omega
theorem plus_lo (x y : Int) : (loW x + loW y) % 18446744073709551616 = loW (x + y) := by unfold loW; omega
theorem plus_hi (x y : Int) : IntKind.i64.wrap (IntKind.i64.wrap (hiW x + hiW y) + (loW x + loW y) / 18446744073709551616) = hiW (x + y) := by
  simp only [wrap_i64']; unfold hiW loW; omega
theorem less_lo (x y : Int) : (loW x - loW y) % 18446744073709551616 = loW (x - y) := by unfold loW; omega
theorem less_hi (x y : Int) : IntKind.i64.wrap (IntKind.i64.wrap (hiW x - hiW y) - (if loW x < loW y then 1 else 0)) = hiW (x - y) := by
  simp only [wrap_i64']; unfold hiW loW; split <;> omega
theorem hi_cong {x y : Int} (h : x % 340282366920938463463374607431768211456 = y % 340282366920938463463374607431768211456) : hiW x = hiW y := by unfold hiW; omega
theorem lo_cong {x y : Int} (h : x % 340282366920938463463374607431768211456 = y % 340282366920938463463374607431768211456) : loW x = loW y := by unfold loW; omega
theorem sv_cong (v : Int) : svW v % 340282366920938463463374607431768211456 = v % 340282366920938463463374607431768211456 := by unfold svW hiW loW; omega
theorem sv_bd (v : Int) : -170141183460469231731687303715884105728 ≤ svW v ∧ svW v ≤ 170141183460469231731687303715884105727 := by unfold svW hiW loW; omega
theorem sv_eq (v : Int) : svW v = (v + 170141183460469231731687303715884105728) % 340282366920938463463374607431768211456 - 170141183460469231731687303715884105728 := by unfold svW hiW loW; omega
theorem sv_small (v : Int) (h1 : -170141183460469231731687303715884105728 ≤ v) (h2 : v ≤ 170141183460469231731687303715884105727) : svW v = v := by rw [sv_eq]; omega
theorem sv_in64 {v : Int} (h : In64 v) : svW v = v := by unfold In64 at h; exact sv_small v (by omega) (by omega)
/-- The sign. -/
def sgnI (v : Int) : Int := if v < 0 then -1 else if v = 0 then 0 else 1
theorem sgn_neg {v : Int} (h : v < 0) : sgnI v = -1 := if_pos h
theorem sgn_zero {v : Int} (h : v = 0) : sgnI v = 0 := by unfold sgnI; rw [if_neg (by omega), if_pos h]
theorem sgn_pos {v : Int} (h : 0 < v) : sgnI v = 1 := by unfold sgnI; rw [if_neg (by omega), if_neg (by omega)]
/-- Which of two numbers is less. -/
def cmpI (a b : Int) : Int := sgnI (a - b)
theorem cmpI_lt {a b : Int} (h : a < b) : cmpI a b = -1 := sgn_neg (by omega)
theorem cmpI_gt {a b : Int} (h : b < a) : cmpI a b = 1 := sgn_pos (by omega)
theorem cmpI_eq {a b : Int} (h : a = b) : cmpI a b = 0 := sgn_zero (by omega)
theorem cmpI_bd (a b : Int) : -1 ≤ cmpI a b ∧ cmpI a b ≤ 1 := by unfold cmpI sgnI; split <;> (try split) <;> omega
/-- First of all the higher halves, then the lower ones. -/
def orI (a b : Int) : Int := if a ≠ 0 then a else b
theorem or_neg (b : Int) : orI (-1) b = -1 := if_pos (by decide)
theorem or_pos (b : Int) : orI 1 b = 1 := if_pos (by decide)
theorem cmp_or (x y : Int) : orI (cmpI (hiW x) (hiW y)) (cmpI (loW x) (loW y)) = cmpI (svW x) (svW y) := by
  have a := loW_bd x
  have b := loW_bd y
  unfold svW
  rcases Int.lt_trichotomy (hiW x) (hiW y) with h | h | h
  · rw [cmpI_lt h, or_neg]; exact (cmpI_lt (by omega)).symm
  · rw [cmpI_eq h, h]
    have e : orI 0 (cmpI (loW x) (loW y)) = cmpI (loW x) (loW y) := rfl
    rw [e]
    unfold cmpI
    congr 1
    omega
  · rw [cmpI_gt h, or_pos]; exact (cmpI_gt (by omega)).symm
theorem sgn_or (x : Int) : orI (sgnI (hiW x)) (sgnI (loW x)) = sgnI (svW x) := by
  have a := loW_bd x
  unfold svW
  rcases Int.lt_trichotomy (hiW x) 0 with h | h | h
  · rw [sgn_neg h, or_neg]; exact (sgn_neg (by omega)).symm
  · rw [sgn_zero h, h]
    have e : orI 0 (sgnI (loW x)) = sgnI (loW x) := rfl
    rw [e]
    congr 1
    omega
  · rw [sgn_pos h, or_pos]; exact (sgn_pos (by omega)).symm
/-- A product: of numbers without their signs, put right. -/
theorem mul_lo (a b : Int) : (loW a * loW b) % 18446744073709551616 = loW (a * b) := by unfold loW; exact (Int.mul_emod a b _).symm
end Go.Proofs.YtihigingddaopaaDoor
