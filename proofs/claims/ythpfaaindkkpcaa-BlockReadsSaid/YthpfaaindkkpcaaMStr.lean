/- Bytes as a string; bytes that came in; the library's Clone. -/
import Derived.Test.YthpfaaindkkpcaaMAppend
import Derived.Laws.BytesArg
import Derived.OpenShut
namespace Go.Proofs.Ythpfaaindkkpcaa
open Go.RowKit

def strF (F : Nat → Nat) (n : Nat) : ByteArray := strOfNums ((List.range n).map fun i => (F i : Int))
theorem strF_congr {F G : Nat → Nat} {n : Nat} (h : ∀ i, i < n → F i = G i) : strF F n = strF G n := by
  unfold strF
  congr 1
  apply List.map_congr_left
  intro i hi
  rw [h i (List.mem_range.1 hi)]
theorem strF_list (F : Nat → Nat) (n : Nat) : (strF F n).data.toList = (List.range n).map fun i => UInt8.ofNat (F i) := by
  unfold strF
  rw [strOfNums_data, List.map_map]
  rfl
theorem strF_inj {F G : Nat → Nat} {n : Nat} (hF : ∀ i, i < n → F i < 256) (hG : ∀ i, i < n → G i < 256) (h : (strF F n).data.toList = (strF G n).data.toList) : ∀ i, i < n → F i = G i := by
  rw [strF_list, strF_list] at h
  intro i hi
  have h1 := congrArg (fun l => l[i]?) h
  simp [hi] at h1
  have h2 := congrArg UInt8.toNat h1
  simp at h2
  have := hF i hi
  have := hG i hi
  omega

theorem conv_any {w : World} {A : Option Addr} {n : Nat} {F : Nat → Nat} (c : Nat) (h : Bytes w A n F) :
    (convert 22 9 (.slice A n c)).run Try.prog w = .ok (.string (strF F n)) w := by
  rcases Nat.eq_zero_or_pos n with h0 | h0
  · subst h0
    rcases A with _ | ad
    · rw [run_convert_bytes_nil w 22 5 Try.underlying22 Try.underlying5 0 c 9 Try.underlying9]
      rfl
    · rw [run_convert_bytes_string w _ _ _ _ 0 c Try.underlying22 Try.underlying5 Try.underlying9,
        run_bytesToString w ad 0 c [] (run_loadCells_list w ad [] (fun j v hj => by simp at hj))]
      rfl
  · obtain ⟨b, o, rfl, hc⟩ := h.2.2 h0
    exact run_convert_bytes_arg w 22 5 Try.underlying22 Try.underlying5 b o n c _ (by simp) (fun i hi => by rw [hc i hi]; simp [hi]) 9 Try.underlying9

/-- Bytes that came in as an argument. -/
theorem bytes_of_row {w : World} {a : Option Addr} {len cap : Nat} {zs : List Int}
    (h : (a = none ∧ len = 0 ∧ cap = 0 ∧ zs = []) ∨
      ∃ x, a = some x ∧ len ≤ cap ∧ cap ≤ maxLen ∧ zs.length = cap ∧ (∀ i, i < zs.length → w.cell? (x.add i) = some (.int .u8 (zs.getD i 0))) ∧ ∀ n ∈ zs, (Lit.int .u8 n).wf = true) :
    ∃ F, Bytes w a len F ∧ (a = none → cap = 0) ∧ len ≤ cap ∧ cap ≤ 9223372036854775807 := by
  rcases h with ⟨rfl, rfl, rfl, rfl⟩ | ⟨x, rfl, hl, hm, hz, hc, hw⟩
  · exact ⟨fun _ => 0, ⟨by omega, fun i hi => absurd hi (by omega), fun hn => absurd hn (by omega)⟩, fun _ => rfl, by omega, by omega⟩
  · unfold maxLen at hm
    refine ⟨fun i => (zs.getD i 0).toNat, ⟨by omega, fun i hi => ?_, fun hn => ?_⟩, (fun e => by cases e), hl, hm⟩
    · have hb := range_u8 hw i
      show (zs.getD i 0).toNat < 256
      rw [List.getD_eq_getElem?_getD]
      omega
    · obtain ⟨b, off, spot⟩ := x
      have h0 := hc 0 (by omega)
      have hspot : spot = none := by simpa [Addr.add] using World.cell?_spot h0
      subst hspot
      refine ⟨b, off, rfl, fun i hi => ?_⟩
      have h1 := hc i (by omega)
      have hb := range_u8 hw i
      have e : ((zs.getD i 0).toNat : Int) = zs.getD i 0 := by rw [List.getD_eq_getElem?_getD]; omega
      rw [e, ← h1]
      unfold Addr.add
      split
      · rename_i q; subst q; rfl
      · rfl

end Go.Proofs.Ythpfaaindkkpcaa
