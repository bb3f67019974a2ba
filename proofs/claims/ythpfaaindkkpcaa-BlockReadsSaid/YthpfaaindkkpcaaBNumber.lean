/- the document's Number: every number. -/
import Derived.Test.YthpfaaindkkpcaaBBytes
import Derived.Laws.OwnMore
namespace Go.Proofs.Ythpfaaindkkpcaa
open Go.RowKit Go.Maps
set_option linter.unusedVariables false
set_option linter.unusedSimpArgs false

theorem num_small {n : Nat} (h : n < 128) : numL n = [n] := by
  unfold numL
  rw [show n / 128 = 0 by omega, hi_zero, List.nil_append, Nat.mod_eq_of_lt h]
theorem u8L_set (xs : List Nat) (x y : Nat) : (u8L (xs ++ [x])).set xs.length (.int .u8 (y : Int)) = u8L (xs ++ [y]) := by
  simp [u8L]
theorem own_last {w : World} {base : Nat} {v : Value} {xs : List Nat} {x : Nat} (h : OwnU w base v (xs ++ [x])) :
    ∃ g c, v = .slice (some ⟨g, 0, none⟩) (xs.length + 1) c ∧ base ≤ g ∧ w.cell? ⟨g, xs.length, none⟩ = some (.int .u8 (x : Int)) ∧ w.frozen? ⟨g, xs.length, none⟩ = false ∧
      ∀ y : Nat, OwnU (w.setCell ⟨g, xs.length, none⟩ (.int .u8 (y : Int))) base v (xs ++ [y]) := by
  have h' := h
  obtain ⟨hl, ⟨hv, h0⟩ | ⟨g, cap, cur, rfl, hg, hh, r⟩⟩ := h
  · simp at h0
  · have e1 : (xs ++ [x]).length = xs.length + 1 := by simp
    refine ⟨g, cap, by rw [e1], hg, ?_, frozen_of_row _ _ _ _ _ hh, fun y => ?_⟩
    · have hc := World.ownsRow.cellAt (w := w) (base := base) (e := 5) (size := 1) h' xs.length (by simp)
      have h2 : w.cell? ⟨g, xs.length, none⟩ = (u8L (xs ++ [x]))[xs.length]? := by simpa using hc
      rw [h2]; simp [u8L]
    · have hs := (World.ownsRow.stored h' xs.length (.int .u8 (y : Int))).1
      rw [u8L_set] at hs
      have e2 : (xs ++ [y]).length = (xs ++ [x]).length := by simp
      show World.ownsRow _ base 5 1 _ (xs ++ [y]).length (u8L (xs ++ [y]))
      rw [e2]; exact hs
theorem own_blk {g n c k : Nat} (h : (Value.slice (some ⟨g, 0, none⟩) n c).ownBlock = some k) : g = k := by simpa [Value.ownBlock] using h
theorem number_ends : ∀ (m : Nat) (n : Nat), n < 128 ^ m → n < 9223372036854775808 → ∀ w : World,
    Calls Try.prog 26 #[.int .i64 n] w fun e w' => ∃ v, e = .returned v ∧ OwnU w' w.heap.size v (numL n) ∧ Below w.heap.size w w' := by
  intro m
  induction m with
  | zero =>
    intro n h _ w
    have h0 : n = 0 := by simpa using h
    subst h0
    go_enter Try.func26, Try.ntmps26
    go_wp2
    go_ret
    refine ⟨_, rfl, ?_, (Below.refl _ _).alloc (Nat.le_refl _) _⟩
    rw [num_small (by omega)]
    exact World.ownsRow_lit w #[.int .u8 0] 1 (Nat.le_refl _) (by unfold maxLen; omega) rfl
  | succ m ih =>
    intro n h hn w
    by_cases hs : n < 128
    · have HN := Lib.hid (num_small hs)
      have hn2 : (n : Int) < 128 := by omega
      clear h ih
      go_enter Try.func26, Try.ntmps26
      go_wp2
      go_ret
      refine ⟨_, rfl, ?_, (Below.refl _ _).alloc (Nat.le_refl _) _⟩
      rw [HN.out]
      exact World.ownsRow_lit w #[.int .u8 n] 1 (Nat.le_refl _) (by unfold maxLen; omega) rfl
    · have hq := ih (n / 128) (by rw [Nat.pow_succ] at h; omega) (by omega) w
      have e0 : ((n / 128 : Nat) : Int) = (n : Int) / 128 := by simp
      rw [e0] at hq
      have HQ := Lib.hid hq
      have HX : Hid (numL (n / 128) = hiL (n / 128 / 128) ++ [n / 128 % 128]) := Lib.hid rfl
      have HY : Hid (numL n = hiL (n / 128 / 128) ++ [n / 128 % 128 + 128] ++ [n % 128]) := Lib.hid (by unfold numL; rw [hi_pos (by omega : n / 128 ≠ 0)])
      have hl9 := hi_len 9 (n / 128 / 128) (by omega)
      have hn2 : ¬ (n : Int) < 128 := by omega
      have hm1 : (n : Int) % 128 = ((n % 128 : Nat) : Int) := by simp
      have HM := Lib.hid hm1
      have hb1 : n / 128 % 128 < 128 := Nat.mod_lt _ (by omega)
      have hb2 : n % 128 < 128 := Nat.mod_lt _ (by omega)
      clear h ih hq e0 hs hm1
      generalize hiL (n / 128 / 128) = hs at *
      generalize n / 128 % 128 = x at *
      go_enter Try.func26, Try.ntmps26
      go_wp2_with (first
        | (go_at_call 26; (with_reducible refine HQ.out.mono ?_); rintro e w1 ⟨v, rfl, ho, hb⟩; rw [HX.out] at ho; obtain ⟨g, c, rfl, hg, hc, hf, hset⟩ := own_last ho; have hs2 := hset (x + 128); rw [show ((x + 128 : Nat) : Int) = (x : Int) + 128 by omega] at hs2; have HS := Lib.hid hs2; clear hs2; have HB := Lib.hid hb; have hbs := hb.size; clear ho hb hset)
        | (at_builtin; rw [HM.out]; refine wpList_pushU (w1.setCell ⟨g, hs.length, none⟩ (.int .u8 ((x : Int) + 128))) rfl _ _ 22 rfl Try.underlying22 u8infoAll w.heap.size (.slice (some ⟨g, 0, none⟩) (hs.length + 1) c) (hs ++ [x + 128]) rfl HS.out _ (by rw [show (w1.setCell ⟨g, hs.length, none⟩ (.int .u8 ((x : Int) + 128))).heap.size = w1.heap.size by simp]; rfl) (by simp; omega) (by show w.heap.size ≤ (w1.setCell _ _).heap.size; simp; omega) ?_; intro v2 w2 ho2 hg2 hn2; have HO2 := Lib.hid ho2; have HG2 := Lib.hid hg2; clear ho2 hg2 hn2))
      go_ret
      refine ⟨_, rfl, by rw [HY.out]; exact HO2.out, ?_⟩
      exact (HB.out.setCell (p := ⟨g, hs.length, none⟩) hg _).grown HG2.out (by simp; omega) (fun k hk => own_blk hk ▸ hg)
theorem number_any (n : Nat) (hn : n < 9223372036854775808) (w : World) :
    Calls Try.prog 26 #[.int .i64 n] w fun e w' => ∃ v, e = .returned v ∧ OwnU w' w.heap.size v (numL n) ∧ Below w.heap.size w w' :=
  number_ends 9 n (by omega) hn w
end Go.Proofs.Ythpfaaindkkpcaa
