/- The document's small. -/
import Derived.Test.YtoeddhkbifeamaaDoorNRefScan2
namespace Go.Proofs.YtoeddhkbifeamaaDoor
open Go.RowKit
set_option linter.unusedVariables false

def SmallI (l : List UInt8) (n : Nat) : Prop := (n = valL l ∧ n < 10000000) ∨ (1000000 ≤ n ∧ 1000000 ≤ valL l ∧ n < 10000000)
theorem small_step {l : List UInt8} {n : Nat} {c : UInt8} (h : SmallI l n) (hf : fig c = true) : SmallI (l ++ [c]) (if n < 1000000 then 10 * n + (c.toNat - 48) else n) := by
  have hc := fig_yes hf
  unfold SmallI at h ⊢
  rw [valL_snoc]
  by_cases hn : n < 1000000
  · rw [if_pos hn]
    rcases h with ⟨h, _⟩ | ⟨h, _, _⟩
    · left; omega
    · omega
  · rw [if_neg hn]
    rcases h with ⟨h, _⟩ | ⟨h, _, _⟩
    · right; omega
    · right; omega
def smallV (l : List UInt8) : Nat := min (valL l) 1000000
set_option maxHeartbeats 1000000 in
set_option maxRecDepth 100000 in
theorem small_any (s : ByteArray) (w : World) (hs : s.size ≤ 70000) (hf : Figs s.data.toList) :
    Calls Tryd.prog 23 #[.string s] w fun e w' => e = .returned (.int .i64 (smallV s.data.toList)) ∧ w = w' := by
  have hsI : (s.size : Int) ≤ 70000 := by omega
  have HF := Lib.hid hf
  clear hf
  go_enter Tryd.func23, Tryd.ntmps23
  go_wp2
  go_loop [3, 4] (fun n i => ∃ k m : Nat, i = .int .i64 k ∧ n = .int .i64 m ∧ k ≤ s.size ∧ SmallI (s.data.toList.take k) m) (fun _ i => s.size - (intOf i).toNat)
  case atStart => exact ⟨0, 0, rfl, rfl, by omega, .inl ⟨rfl, by omega⟩⟩
  case round =>
    obtain ⟨k, m, rfl, rfl, hk, hi⟩ := hrel
    have hm : m < 10000000 := by rcases hi with ⟨_, h⟩ | ⟨_, _, h⟩ <;> exact h
    have HI := Lib.hid hi
    clear hi
    by_cases hlt : k < s.size
    · have hfk := HF.out.at k hlt
      have hff := fig_yes hfk
      have HS := Lib.hid (show SmallI (s.data.toList.take (k + 1)) (if m < 1000000 then 10 * m + ((s[k]'hlt).toNat - 48) else m) by rw [take_snoc s k hlt]; exact small_step HI.out hfk)
      obtain ⟨r, hr⟩ : ∃ r, r = (s[k]'hlt).toNat := ⟨_, rfl⟩
      rw [← hr] at hff HS
      have hx : ((s[k]'hlt).toNat : Int) = (r : Int) := by rw [hr]
      have r1 : (48 : Int) ≤ r := by omega
      have r2 : (r : Int) ≤ 57 := by omega
      have hmI : (m : Int) ≤ 10000000 := by omega
      clear hr hff hfk
      by_cases hm1 : m < 1000000
      · have hm2 : (m : Int) < 1000000 := by omega
        have HN := Lib.hid (show SmallI (s.data.toList.take (k + 1)) (10 * m + (r - 48)) by have := HS.out; rwa [if_pos hm1] at this)
        clear hm1 hm
        go_wp2
        go_round
        case rel => exact ⟨k + 1, 10 * m + (r - 48), by go_num, by congr 1; omega, by omega, HN.out⟩
        case measure => simp [intOf]; omega
      · have hm2 : ¬ (m : Int) < 1000000 := by omega
        have HN := Lib.hid (show SmallI (s.data.toList.take (k + 1)) m by have := HS.out; rwa [if_neg hm1] at this)
        clear hm1 hm
        go_wp2
        go_round
        case rel => exact ⟨k + 1, m, by go_num, rfl, by omega, HN.out⟩
        case measure => simp [intOf]; omega
    · obtain rfl : k = s.size := by omega
      have hT : s.data.toList.take s.size = s.data.toList := List.take_of_length_le (by simp)
      have hi := HI.out
      rw [hT] at hi
      have hv : smallV s.data.toList = if 1000000 < m then 1000000 else m := by
        unfold smallV
        rcases hi with ⟨h, _⟩ | ⟨h1, h2, _⟩
        · split <;> omega
        · split <;> omega
      have HV := Lib.hid hv
      clear hi hv hT
      by_cases hm1 : 1000000 < m
      · have hm2 : (1000000 : Int) < m := by omega
        have HX := Lib.hid (HV.out.trans (if_pos hm1))
        clear hm1 hm
        go_wp2
        go_ret
        exact ⟨ret_i64 (by rw [HX.out]; rfl), rfl⟩
      · have hm2 : ¬ (1000000 : Int) < m := by omega
        have HX := Lib.hid (HV.out.trans (if_neg hm1))
        clear hm1 hm
        go_wp2
        go_ret
        exact ⟨ret_i64 (by rw [HX.out]), rfl⟩
theorem clip_eq (l : List UInt8) : clipL l = min (valL l) 1048576 := by
  refine snoc_induction (P := fun l => clipL l = min (valL l) 1048576) (by decide) (fun l c ih => ?_) l
  show clipL (l ++ [c]) = min (valL (l ++ [c])) 1048576
  rw [clipL_snoc, valL_snoc, ih]
  omega
end Go.Proofs.YtoeddhkbifeamaaDoor
