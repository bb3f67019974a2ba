/- The law of copy into a block of bytes that the call made, its source whatever bytes can be read. -/
import Derived.Test.YtmeijienfdefjaaMMem
import Derived.Laws.CopyOwn
namespace Go.Proofs.Ytmeijienfdefjaa
open Go.RowKit

def copyF (F0 : Nat → Nat) (off m : Nat) (F : Nat → Nat) (i : Nat) : Nat := if off ≤ i ∧ i < off + m then F (i - off) else F0 i

def cellsOfF (F : Nat → Nat) (m : Nat) : List Value := (List.range m).map fun i => .int .u8 (F i)
theorem cellsOfF_get {F : Nat → Nat} {m j : Nat} {v : Value} (h : (cellsOfF F m)[j]? = some v) : j < m ∧ v = .int .u8 (F j) := by
  obtain ⟨hj, e⟩ := List.getElem?_eq_some_iff.1 h
  simp [cellsOfF] at hj e
  exact ⟨hj, e.symm⟩
theorem copyF_in {F0 F : Nat → Nat} {o m i : Nat} (h1 : o ≤ i) (h2 : i < o + m) : copyF F0 o m F i = F (i - o) := if_pos ⟨h1, h2⟩
theorem copyF_out {F0 F : Nat → Nat} {o m i : Nat} (h : i < o ∨ o + m ≤ i) : copyF F0 o m F i = F0 i := if_neg (by omega)

theorem setRow_brow {w : World} {g n o m : Nat} {F0 F : Nat → Nat} (h : BRow w g n F0) (hm : o + m ≤ n) (hF : ∀ i, i < m → F i < 256) (cur : Array Value) (hcur : w.heap[g]? = some (.cells cur 5 (0, 0))) :
    BRow (w.setRow g (cur.toList.take o ++ (cellsOfF F m ++ cur.toList.drop (o + (cellsOfF F m).length))).toArray) g n (copyF F0 o m F) := by
  obtain ⟨⟨c, hb, hn, hc⟩, hF0, hN⟩ := h
  rw [hcur] at hb
  injection hb with hb
  injection hb with hb _ _
  subst hb
  have hl : (cellsOfF F m).length = m := by simp [cellsOfF]
  have hcl : cur.toList.length = n := by simpa using hn
  refine ⟨⟨_, setRow_heap w g _ _ _ _ hcur, by simp [hl, hn]; omega, fun i hi => ?_⟩, fun i hi => ?_, hN⟩
  · show (cur.toList.take o ++ (cellsOfF F m ++ cur.toList.drop (o + (cellsOfF F m).length))).toArray[i]? = some (Value.int .u8 (copyF F0 o m F i))
    rw [List.getElem?_toArray, hl]
    by_cases h1 : i < o
    · rw [List.getElem?_append_left (by rw [List.length_take]; omega), List.getElem?_take_of_lt h1]
      rw [copyF_out (by omega)]
      have := hc i hi
      simpa using this
    · rw [List.getElem?_append_right (by rw [List.length_take]; omega)]
      have e : i - (cur.toList.take o).length = i - o := by simp; omega
      rw [e]
      by_cases h2 : i < o + m
      · rw [List.getElem?_append_left (by omega)]
        rw [copyF_in (by omega) h2]
        unfold cellsOfF
        rw [List.getElem?_map, List.getElem?_range (by omega)]
        rfl
      · rw [List.getElem?_append_right (by omega), hl, List.getElem?_drop]
        rw [copyF_out (by omega)]
        have := hc i hi
        have e2 : o + m + (i - o - m) = i := by omega
        rw [e2]
        simpa using this
  · unfold copyF
    split
    · exact hF _ (by omega)
    · exact hF0 i hi

theorem wpList_copy_bytes {P : Program} {w : World} {ops : Array Oper} {rest : List Oper} {o : Oper} {a : Act} {Q : Exit → Act → World → Prop} (hgd : o.guard = none) (d s : Operand) (dT sT : TypeId)
    (ho : o.op = .call { callee := .builtin .copy, args := #[d, s], argTypes := #[dT, sT] }) (hu : P.underlying dT = some (.slice 5)) (hsz : (P.info? 5).map (·.size) = some 1)
    (dp sp : Option Addr) (dLen dCap sLen sCap : Nat) (hd : a.eval d = .slice dp dLen dCap) (hs : a.eval s = .slice sp sLen sCap)
    (g off n m : Nat) (F0 F : Nat → Nat) (hg : BRow w g n F0) (hsrc : Bytes w sp sLen F) (hm : m = Nat.min sLen dLen) (hdp : 0 < m → dp = some ⟨g, off, none⟩) (hfit : off + m ≤ n)
    (h : ∀ w', BRow w' g n (copyF F0 off m F) → w.grownBy w' (some g) → wpList P ops Q rest (a.put o.dst (goInt m)) w') : wpList P ops Q (o :: rest) a w := by
  have hmle : m ≤ sLen := by rw [hm]; exact Nat.min_le_left _ _
  rcases Nat.eq_zero_or_pos m with h0 | h0
  · subst h0
    refine wpList_copy_nothing hgd d s dT sT ho _ hu hsz dp sp dLen dCap sLen sCap hd hs hm.symm ?_
    exact h w (hg.congr fun i _ => by unfold copyF; rw [if_neg (by omega)]) (World.grownBy.refl w _)
  · have hdp' := hdp h0
    subst hdp'
    obtain ⟨b, ob, rfl, hc⟩ := hsrc.2.2 (by omega)
    obtain ⟨cur, hcur, hsize, hcell⟩ := hg.1
    have hl : (cellsOfF F m).length = m := by simp [cellsOfF]
    have hbrow := setRow_brow hg hfit (fun i hi => hsrc.2.1 i (by omega)) cur hcur
    refine wpList_copy_own hgd d s dT sT ho _ hu hsz g off dLen dCap ⟨b, ob, none⟩ sLen sCap hd hs cur _ hcur (cellsOfF F m) (by rw [hl, hm]) ?_ (by rw [hl, hsize]; exact hfit) ?_ ?_
    · intro j v hv
      obtain ⟨hj, rfl⟩ := cellsOfF_get hv
      have := hc j (by omega)
      unfold Addr.add
      split
      · rename_i h0; subst h0; simpa using this
      · simpa using this
    · intro v hv
      obtain ⟨k, _, rfl⟩ := List.mem_map.1 hv
      rfl
    · rw [hl]
      exact h _ (by rw [hl] at hbrow; exact hbrow) ⟨rfl, rfl, rfl, by simp [World.setRow], fun k _ hk => setRow_other w g k _ (fun e => hk (by rw [e]))⟩
end Go.Proofs.Ytmeijienfdefjaa
