/- OrderHolds: the walk, put together. -/
import Derived.Test.YtpmhefdalhohdaaDoorOHolds
import Derived.Test.YtpmhefdalhohdaaDoorOHoldsA
import Derived.Test.YtpmhefdalhohdaaDoorOHoldsB
import Derived.Test.YtpmhefdalhohdaaDoorOAlike2
import Derived.Test.YtpmhefdalhohdaaDoorOPrefLaw
namespace Go.Proofs.YtpmhefdalhohdaaDoor
open Go.RowKit
set_option linter.unusedVariables false

theorem extract_keys (o : List UInt8) (n : Nat) : (⟨o.toArray⟩ : ByteArray).extract 0 n = ⟨(o.take n).toArray⟩ := by
  have h := Lib.extract_data (⟨o.toArray⟩ : ByteArray) 0 n
  generalize (⟨o.toArray⟩ : ByteArray).extract 0 n = x at h ⊢
  obtain ⟨⟨x⟩⟩ := x
  simp at h
  rw [h]
theorem key_sz (l : List UInt8) : (⟨l.toArray⟩ : ByteArray).size = l.length := by simp [ByteArray.size]
theorem orderHolds_walk (ta tb : VT) (ca cb : Array Value) (w : World) (ia : InV w ta ca) (ib : InV w tb cb) (hT : TabU w) :
    Calls Tryd.prog 6 #[.agg ca, .agg cb] w fun e w' => e = .returned (.bool true) ∧ Below w.heap.size w w' := by
  obtain ⟨a0, a1, a2, a3, a4, a5, rfl⟩ := inv_lit ia
  obtain ⟨b0, b1, b2, b3, b4, b5, rfl⟩ := inv_lit ib
  cases la : lightB ta
  · exact holds_l1 ta tb _ _ _ _ _ _ _ _ _ _ _ _ w ia ib hT la
  cases lb : lightB tb
  · exact holds_l2 ta tb _ _ _ _ _ _ _ _ _ _ _ _ w ia ib hT la lb
  by_cases za : mayV ta 0 = 0
  case neg => exact holds_l3 ta tb _ _ _ _ _ _ _ _ _ _ _ _ w ia ib hT la lb _ rfl za
  by_cases zb : mayV tb 0 = 0
  case neg => exact holds_l4 ta tb _ _ _ _ _ _ _ _ _ _ _ _ w ia ib hT la lb _ za rfl zb
  have fa : Fit ta := ⟨0, za⟩
  have fb : Fit tb := ⟨0, zb⟩
  have sa := (light_ok la).1.small
  have sb := (light_ok lb).1.small
  have ka := key_short la
  have kb := key_short lb
  have KC : ∀ c : Int, cmpV ta tb = c → ∀ (W : World) (x y : Value), JV W ta x → JV W tb y → TabU W → Calls Tryd.prog 12 #[x, y] W fun e w' => e = .returned (.tuple #[.int .i64 c, .int .i64 0]) ∧ Below W.heap.size W w' := fun c hc W x y h1 h2 hT => by
    have := Compare_any ta tb x y W h1 h2 sa sb hT
    rw [show cmpEV ta tb = c by unfold cmpEV; rw [if_neg (by omega), if_neg (by omega)]; exact hc, show cmpEE ta tb = 0 by unfold cmpEE; rw [if_neg (by omega)]; exact zb] at this
    exact this
  have KS : ∀ r : Bool, decide (cmpV ta tb = 0) = r → ∀ (W : World) (x y : Value), JV W ta x → JV W tb y → TabU W → Calls Tryd.prog 23 #[x, y] W fun e w' => e = .returned (.bool r) ∧ Below W.heap.size W w' := fun r hr W x y h1 h2 hT => by
    rw [← hr]; exact Same_any ta tb x y W h1 h2 sa za fb hT
  have hk := cmpV_key ta tb fa fb
  have e1 : Op.bytesLess (⟨(keyV ta).toArray⟩ : ByteArray).toList (⟨(keyV tb).toArray⟩ : ByteArray).toList = decide (cmpV ta tb < 0) := by rw [less_list, hk]; rfl
  have e2 : Op.bytesLess (⟨(keyV tb).toArray⟩ : ByteArray).toList (⟨(keyV ta).toArray⟩ : ByteArray).toList = decide (0 < cmpV ta tb) := by
    rw [less_list]
    unfold ltL
    rw [cmpS_anti (keyV ta) (keyV tb), ← hk]
    by_cases h : 0 < cmpV ta tb
    · rw [decide_eq_true h, decide_eq_true (by omega)]
    · rw [decide_eq_false h, decide_eq_false (by omega)]
  have e3 : ((⟨(keyV ta).toArray⟩ : ByteArray).toList == (⟨(keyV tb).toArray⟩ : ByteArray).toList) = decide (cmpV ta tb = 0) := by
    rw [ba_list, hk]
    by_cases h : keyV ta = keyV tb
    · rw [decide_eq_true h, h, decide_eq_true (cmpS_self _)]
    · rw [decide_eq_false h, decide_eq_false (fun e => h (cmpS_eq _ _ e))]
  have s1 : (⟨(keyV ta).toArray⟩ : ByteArray).size ≤ 1000000 := by rw [key_sz]; omega
  have s2 : (⟨(keyV tb).toArray⟩ : ByteArray).size ≤ 1000000 := by rw [key_sz]; omega
  have ex : cmpV ta tb ≠ 0 → (((⟨(keyV tb).toArray⟩ : ByteArray).extract 0 (⟨(keyV ta).toArray⟩ : ByteArray).size).toList == (⟨(keyV ta).toArray⟩ : ByteArray).toList) = false := fun hne => by
    rw [key_sz, extract_keys, ba_list]
    refine decide_eq_false fun h => hne ?_
    have hz : keyV tb = keyV ta ++ (keyV tb).drop (keyV ta).length := by
      have := List.take_append_drop (keyV ta).length (keyV tb)
      rw [h] at this
      exact this.symm
    have := key_prefix ta tb fa fb _ hz
    rw [this, List.append_nil] at hz
    rw [hk, hz]
    exact cmpS_self _
  rcases (show cmpV ta tb = 0 ∨ cmpV ta tb = -1 ∨ cmpV ta tb = 1 by rw [hk]; have := cmpS_vals (keyV ta) (keyV tb); omega) with hc | hc | hc
  · rw [hc] at e1 e2 e3
    exact holds_eq ta tb _ _ _ _ _ _ _ _ _ _ _ _ w ia ib hT la lb za zb ⟨(keyV ta).toArray⟩ ⟨(keyV tb).toArray⟩ (key_of ta la za) (key_of tb lb zb) (KC 0 hc) (KS true (by rw [hc]; rfl)) s1 s2 e1 e2 e3
  all_goals
    have hx := ex (by omega)
    rw [hc] at e1 e2 e3
  · by_cases hz : (⟨(keyV tb).toArray⟩ : ByteArray).size < (⟨(keyV ta).toArray⟩ : ByteArray).size
    · exact holds_ltg ta tb _ _ _ _ _ _ _ _ _ _ _ _ w ia ib hT la lb za zb ⟨(keyV ta).toArray⟩ ⟨(keyV tb).toArray⟩ (key_of ta la za) (key_of tb lb zb) (KC (-1) hc) (KS false (by rw [hc]; rfl)) s1 s2 e1 e2 e3 hz
    · exact holds_lts ta tb _ _ _ _ _ _ _ _ _ _ _ _ w ia ib hT la lb za zb ⟨(keyV ta).toArray⟩ ⟨(keyV tb).toArray⟩ (key_of ta la za) (key_of tb lb zb) (KC (-1) hc) (KS false (by rw [hc]; rfl)) s1 s2 e1 e2 e3 (by omega) hx
  · by_cases hz : (⟨(keyV tb).toArray⟩ : ByteArray).size < (⟨(keyV ta).toArray⟩ : ByteArray).size
    · exact holds_gtg ta tb _ _ _ _ _ _ _ _ _ _ _ _ w ia ib hT la lb za zb ⟨(keyV ta).toArray⟩ ⟨(keyV tb).toArray⟩ (key_of ta la za) (key_of tb lb zb) (KC 1 hc) (KS false (by rw [hc]; rfl)) s1 s2 e1 e2 e3 hz
    · exact holds_gts ta tb _ _ _ _ _ _ _ _ _ _ _ _ w ia ib hT la lb za zb ⟨(keyV ta).toArray⟩ ⟨(keyV tb).toArray⟩ (key_of ta la za) (key_of tb lb zb) (KC 1 hc) (KS false (by rw [hc]; rfl)) s1 s2 e1 e2 e3 (by omega) hx
end Go.Proofs.YtpmhefdalhohdaaDoor
