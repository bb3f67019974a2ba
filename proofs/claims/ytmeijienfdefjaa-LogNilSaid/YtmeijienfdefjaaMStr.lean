/- Bytes as a string; bytes that came in; the library's Clone. -/
import Derived.Test.YtmeijienfdefjaaMAppend
import Derived.Laws.BytesArg
import Derived.OpenShut
namespace Go.Proofs.Ytmeijienfdefjaa
open Go.RowKit

def strF (F : Nat → Nat) (n : Nat) : ByteArray := strOfNums ((List.range n).map fun i => (F i : Int))
theorem strF_congr {F G : Nat → Nat} {n : Nat} (h : ∀ i, i < n → F i = G i) : strF F n = strF G n := by
  unfold strF
  congr 1
  apply List.map_congr_left
  intro i hi
  rw [h i (List.mem_range.1 hi)]
theorem strF_list (F : Nat → Nat) (n : Nat) : (strF F n).data.toList = (List.range n).map fun i => UInt8.ofNat (F i) := by
  unfold strF
  rw [strOfNums_data, List.map_map]
  rfl
theorem strF_inj {F G : Nat → Nat} {n : Nat} (hF : ∀ i, i < n → F i < 256) (hG : ∀ i, i < n → G i < 256) (h : (strF F n).data.toList = (strF G n).data.toList) : ∀ i, i < n → F i = G i := by
  rw [strF_list, strF_list] at h
  intro i hi
  have h1 := congrArg (fun l => l[i]?) h
  simp [hi] at h1
  have h2 := congrArg UInt8.toNat h1
  simp at h2
  have := hF i hi
  have := hG i hi
  omega

theorem conv_any {w : World} {A : Option Addr} {n : Nat} {F : Nat → Nat} (c : Nat) (h : Bytes w A n F) :
    (convert 42 9 (.slice A n c)).run Try.prog w = .ok (.string (strF F n)) w := by
  rcases Nat.eq_zero_or_pos n with h0 | h0
  · subst h0
    rcases A with _ | ad
    · rw [run_convert_bytes_nil w 42 5 Try.underlying42 Try.underlying5 0 c 9 Try.underlying9]
      rfl
    · rw [run_convert_bytes_string w _ _ _ _ 0 c Try.underlying42 Try.underlying5 Try.underlying9,
        run_bytesToString w ad 0 c [] (run_loadCells_list w ad [] (fun j v hj => by simp at hj))]
      rfl
  · obtain ⟨b, o, rfl, hc⟩ := h.2.2 h0
    exact run_convert_bytes_arg w 42 5 Try.underlying42 Try.underlying5 b o n c _ (by simp) (fun i hi => by rw [hc i hi]; simp [hi]) 9 Try.underlying9

/-- Bytes that came in as an argument. -/
theorem bytes_of_row {w : World} {a : Option Addr} {len cap : Nat} {zs : List Int}
    (h : (a = none ∧ len = 0 ∧ cap = 0 ∧ zs = []) ∨
      ∃ x, a = some x ∧ len ≤ cap ∧ cap ≤ maxLen ∧ zs.length = cap ∧ (∀ i, i < zs.length → w.cell? (x.add i) = some (.int .u8 (zs.getD i 0))) ∧ ∀ n ∈ zs, (Lit.int .u8 n).wf = true) :
    ∃ F, Bytes w a len F ∧ (a = none → cap = 0) ∧ len ≤ cap ∧ cap ≤ 9223372036854775807 := by
  rcases h with ⟨rfl, rfl, rfl, rfl⟩ | ⟨x, rfl, hl, hm, hz, hc, hw⟩
  · exact ⟨fun _ => 0, ⟨by omega, fun i hi => absurd hi (by omega), fun hn => absurd hn (by omega)⟩, fun _ => rfl, by omega, by omega⟩
  · unfold maxLen at hm
    refine ⟨fun i => (zs.getD i 0).toNat, ⟨by omega, fun i hi => ?_, fun hn => ?_⟩, (fun e => by cases e), hl, hm⟩
    · have hb := range_u8 hw i
      show (zs.getD i 0).toNat < 256
      rw [List.getD_eq_getElem?_getD]
      omega
    · obtain ⟨b, off, spot⟩ := x
      have h0 := hc 0 (by omega)
      have hspot : spot = none := by simpa [Addr.add] using World.cell?_spot h0
      subst hspot
      refine ⟨b, off, rfl, fun i hi => ?_⟩
      have h1 := hc i (by omega)
      have hb := range_u8 hw i
      have e : ((zs.getD i 0).toNat : Int) = zs.getD i 0 := by rw [List.getD_eq_getElem?_getD]; omega
      rw [e, ← h1]
      unfold Addr.add
      split
      · rename_i q; subst q; rfl
      · rfl

set_option maxHeartbeats 1000000 in
theorem clone_any (b o n c : Nat) (F : Nat → Nat) (w : World) (hb : Bytes w (some ⟨b, o, none⟩) n F) (hn : n ≤ 140737488355328) :
    Calls Try.prog 66 #[.slice (some ⟨b, o, none⟩) n c] w fun e w' =>
      ∃ B d, e = .returned (.slice B n d) ∧ OwnB w' w.heap.size B n d F ∧ Below w.heap.size w w' := by
  have L1 := (Below.refl w.heap.size w).alloc (Nat.le_refl _) (.cells #[] 5)
  have H1 := Lib.hid (hb.below L1 (Nat.le_refl _))
  have HO := Lib.hid (own_empty w F)
  have HL := Lib.hid L1
  clear L1
  have hnl := fun W : World => Lib.run_eql_slice_nil (P := Try.prog) W 42 5 (some ⟨b, o, none⟩) n c 0 0 Try.underlying42
  go_enter Try.func66, Try.ntmps66
  go_wp2_with (at_builtin; with_reducible refine wpList_append_bytes _ rfl (.tmp 5) (.tmp 6) 42 rfl Try.underlying42 u8infoAll w.heap.size _ _ _ _ rfl HO.out _ _ _ _ rfl H1.out ?d0 ?d1 ?d2 ?d3)
  case d0 => exact fun e => by cases e
  case d1 => omega
  case d2 => simp
  case d3 =>
    intro A1 c1 w1 o1 g1 _
    have l1 : Below w.heap.size w w1 := HL.out.grown g1 (by simp) (by rintro k ⟨⟩; exact Nat.le_refl _)
    have o2 : OwnB w1 w.heap.size A1 n c1 F := by
      have := o1.congr (G := F) fun i _ => by unfold catF; rw [if_neg (by omega), Nat.sub_zero]
      simpa only [Nat.zero_add] using this
    clear o1 g1
    go_wp2
    go_ret
    exact ⟨A1, c1, rfl, o2, l1⟩

end Go.Proofs.Ytmeijienfdefjaa
