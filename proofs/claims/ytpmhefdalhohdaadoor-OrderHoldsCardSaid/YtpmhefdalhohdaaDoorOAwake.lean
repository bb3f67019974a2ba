/- What the chapter's examples say. -/
import Derived.Test.YtpmhefdalhohdaaDoorOKey2
import Derived.Test.YtpmhefdalhohdaaDoorOPrefix
namespace Go.Proofs.YtpmhefdalhohdaaDoor
open Go.RowKit
set_option linter.unusedVariables false

theorem strF_own (l : List UInt8) : strF (lF l) l.length = ⟨l.toArray⟩ := by
  have h : (strF (lF l) l.length).data.toList = l := by
    rw [strF_list]
    apply List.ext_getElem?
    intro i
    rw [List.getElem?_map]
    by_cases hi : i < l.length
    · rw [List.getElem?_range hi, List.getElem?_eq_getElem hi]
      simp [lF, List.getD_eq_getElem?_getD, List.getElem?_eq_getElem hi]
    · rw [List.getElem?_eq_none (by simpa using hi), List.getElem?_eq_none (by omega)]
      rfl
  generalize strF (lF l) l.length = s at h
  obtain ⟨⟨x⟩⟩ := s
  simp at h
  rw [h]
theorem conv_bytes {w : World} {A : Option Addr} {l : List UInt8} (c : Nat) (h : Bytes w A l.length (lF l)) : (convert 35 9 (.slice A l.length c)).run Tryd.prog w = .ok (.string ⟨l.toArray⟩) w := by
  rw [← strF_own]; exact conv_any c h
theorem conv_own {w : World} {base : Nat} {v : Value} {l : List UInt8} (h : OwnL w base v l) : (convert 35 9 v).run Tryd.prog w = .ok (.string ⟨l.toArray⟩) w := by
  obtain ⟨A, c, rfl, hb, _⟩ := h.bytes
  exact conv_bytes c hb
def txtT (s : ByteArray) : VT := .mk 3 false 0 s 0 (fun _ => .no) 0 (fun _ => ByteArray.empty)
def numT (n : Int) : VT := .mk 2 false n ByteArray.empty 0 (fun _ => .no) 0 (fun _ => ByteArray.empty)
def listT (m : Nat) (f : Nat → VT) : VT := .mk 4 false 0 ByteArray.empty m f 0 (fun _ => ByteArray.empty)
theorem list_made (w : World) (cs : Array Value) (m : Nat) (f : Nat → VT) (hm : cs.size = m) (hm2 : m ≤ 1000) (h : ∀ i, i < m → ∃ u, cs[i]? = some u ∧ JV w (f i) u) :
    JV (w.alloc (.cells cs 20)) (listT m f) (.iface 50 (.slice (some ⟨w.heap.size, 0, none⟩) m m)) := by
  refine .inr (.inr (.inr (.inr (.inl ⟨rfl, _, m, rfl, Nat.le_refl _, by omega, fun x hx _ => ?_, fun i hi => ?_⟩))))
  · injection hx with hx; subst hx; simp
  · obtain ⟨u, h1, h2⟩ := h i hi
    refine ⟨u, JV.below h2 ((Below.refl _ _).alloc (Nat.le_refl _) _), ?_⟩
    rw [cellAt_some, Nat.zero_add]
    exact (cell_of_row _ w.heap.size i _ _ _ (heap_alloc_new w (.cells cs 20))).trans h1
theorem num_jv (w : World) (n : Int) (h : In64 n) : JV w (numT n) (.iface 54 (.int .i64 n)) := .inr (.inr (.inl ⟨rfl, rfl, h⟩))
def L12 : VT := listT 2 (fun i => if i = 0 then numT 1 else numT 2)
def L1 : VT := listT 1 (fun _ => numT 1)
theorem key_a (w : World) (h : TabU w) : Calls Tryd.prog 17 #[.iface 9 (.string ⟨#[97]⟩)] w fun e w' => ∃ v, e = .returned (.tuple #[v, .int .i64 0]) ∧ OwnL w' w.heap.size v [5, 97, 0, 1] ∧ Below w.heap.size w w' := by
  refine (Key_any (txtT ⟨#[97]⟩) _ w (.inr (.inr (.inr (.inl ⟨rfl, rfl, by decide⟩)))) (fun e => by rcases e with e | e <;> exact absurd e (by decide)) h (by decide +kernel)).mono fun e w' ⟨_, h2, h3⟩ => ?_
  obtain ⟨v, e1, e2⟩ := h2 (by decide +kernel)
  refine ⟨v, e1, ?_, h3⟩
  rwa [show keyV (txtT ⟨#[97]⟩) = [5, 97, 0, 1] by decide +kernel] at e2
theorem key_e (w : World) (h : TabU w) : Calls Tryd.prog 17 #[.iface 50 (.slice (some ⟨w.heap.size, 0, none⟩) 0 0)] (w.alloc (.cells #[] 20)) fun e w' => ∃ v, e = .returned (.tuple #[v, .int .i64 0]) ∧ OwnL w' (w.heap.size + 1) v [6, 0] ∧ Below (w.heap.size + 1) (w.alloc (.cells #[] 20)) w' := by
  have hz : (w.alloc (.cells #[] 20)).heap.size = w.heap.size + 1 := by simp
  have := Key_any (listT 0 fun _ => .no) _ (w.alloc (.cells #[] 20)) (list_made w #[] 0 (fun _ => .no) rfl (by omega) fun i hi => absurd hi (by omega)) (fun _ => ⟨by omega, fun i hi => absurd hi (by omega)⟩) (h.below ((Below.refl _ _).alloc (Nat.le_refl _) _)) (by decide +kernel)
  refine this.mono fun e w' ⟨_, h2, h3⟩ => ?_
  obtain ⟨v, e1, e2⟩ := h2 (by decide +kernel)
  rw [hz] at e2 h3
  refine ⟨v, e1, ?_, h3⟩
  rwa [show keyV (listT 0 fun _ => .no) = [6, 0] by decide +kernel] at e2
theorem small_num (n : Int) : Small (numT n) := fun e => by rcases e with e | e <;> exact absurd e (by decide)
theorem cmp_l (w : World) (h : TabU w) : Calls Tryd.prog 12 #[.iface 50 (.slice (some ⟨w.heap.size, 0, none⟩) 2 2), .iface 50 (.slice (some ⟨w.heap.size + 1, 0, none⟩) 1 1)]
    ((w.alloc (.cells #[.iface 54 (.int .i64 1), .iface 54 (.int .i64 2)] 20)).alloc (.cells #[.iface 54 (.int .i64 1)] 20)) fun e w' => e = .returned (.tuple #[.int .i64 1, .int .i64 0]) ∧ Below w.heap.size w w' := by
  have l1 : Below w.heap.size w (w.alloc (.cells #[.iface 54 (.int .i64 1), .iface 54 (.int .i64 2)] 20)) := (Below.refl _ _).alloc (Nat.le_refl _) _
  have l2 := l1.alloc l1.size (.cells #[.iface 54 (.int .i64 1)] 20)
  have hz : (w.alloc (.cells #[.iface 54 (.int .i64 1), .iface 54 (.int .i64 2)] 20)).heap.size = w.heap.size + 1 := by simp
  have j1 := list_made w #[.iface 54 (.int .i64 1), .iface 54 (.int .i64 2)] 2 (fun i => if i = 0 then numT 1 else numT 2) rfl (by omega) (fun i hi => by
    rcases (show i = 0 ∨ i = 1 by omega) with rfl | rfl
    · exact ⟨_, rfl, num_jv w 1 (by unfold In64; omega)⟩
    · exact ⟨_, rfl, num_jv w 2 (by unfold In64; omega)⟩)
  have j2 := list_made (w.alloc (.cells #[.iface 54 (.int .i64 1), .iface 54 (.int .i64 2)] 20)) #[.iface 54 (.int .i64 1)] 1 (fun _ => numT 1) rfl (by omega) (fun i hi => by
    obtain rfl : i = 0 := by omega
    exact ⟨_, rfl, num_jv _ 1 (by unfold In64; omega)⟩)
  rw [hz] at j2
  have := Compare_any L12 L1 _ _ _ (JV.below j1 ((Below.refl _ _).alloc (Nat.le_refl _) (.cells #[.iface 54 (.int .i64 1)] 20))) j2 (fun _ => ⟨by omega, fun i _ => by show Small (if i = 0 then numT 1 else numT 2); split <;> exact small_num _⟩) (fun _ => ⟨by omega, fun i _ => small_num _⟩) (h.below l2)
  rw [show cmpEV L12 L1 = 1 by decide +kernel, show cmpEE L12 L1 = 0 by decide +kernel] at this
  exact this.mono fun e w' ⟨he, hw⟩ => ⟨he, l2.trans (hw.mono l2.size)⟩
theorem prefix_a (w : World) : Calls Tryd.prog 21 #[.slice (some ⟨w.heap.size, 0, none⟩) 2 2] (w.alloc (.cells #[.int .u8 1, .int .u8 255] 5)) fun e w' => ∃ v, e = .returned v ∧ (convert 35 9 v).run Tryd.prog w' = .ok (.string ⟨#[2]⟩) w' ∧ Below w.heap.size w w' := by
  have := Prefix_any (some ⟨w.heap.size, 0, none⟩) 2 [1, 255] _ (bytes_new w #[.int .u8 1, .int .u8 255] [1, 255] (fun i hi => by
    rcases (show i = 0 ∨ i = 1 by simp at hi; omega) with rfl | rfl <;> rfl) (by simp)) (by simp) (by simp)
  refine this.mono fun e w' ⟨v, e1, e2, e3⟩ => ⟨v, e1, ?_, ((Below.refl _ _).alloc (Nat.le_refl _) _).trans (e3.mono (by simp))⟩
  rw [show prefixL [1, 255] = [2] by decide +kernel] at e2
  exact conv_own e2
set_option maxHeartbeats 4000000 in
set_option maxRecDepth 100000 in
theorem awake_any (w : World) (h : TabU w) : Calls Tryd.prog 15 #[] w fun e w' => e = .returned (.bool true) ∧ Below w.heap.size w w' := by
  have HT := Lib.hid h
  clear h
  go_enter Tryd.func15, Tryd.ntmps15
  go_wp2_with fail
  refine (key_a w HT.out).mono ?_
  rintro e w1 ⟨v1, rfl, o1, l1⟩
  have O1 := Lib.hid o1
  have L1 := Lib.hid l1
  clear o1 l1
  go_wp2_with fail
  refine (key_e w1 (HT.out.below L1.out)).mono ?_
  rintro e w2 ⟨v2, rfl, o2, l2⟩
  have O2 := Lib.hid o2
  have lA := ((Below.refl w1.heap.size w1).alloc (Nat.le_refl _) (.cells #[] 20)).trans (l2.mono (by omega))
  have L12 := Lib.hid lA
  have L2 := Lib.hid (L1.out.trans (lA.mono L1.out.size))
  clear o2 l2 lA
  go_wp2_with fail
  refine (cmp_l w2 (HT.out.below L2.out)).mono ?_
  rintro e w3 ⟨rfl, l3⟩
  have L3 := Lib.hid (L2.out.trans (l3.mono L2.out.size))
  have q1 := conv_own ((O1.out.below L12.out).below l3)
  have q2 := conv_own (O2.out.below l3)
  rw [show (([5, 97, 0, 1] : List UInt8).toArray) = #[5, 97, 0, 1] from rfl] at q1
  rw [show (([6, 0] : List UInt8).toArray) = #[6, 0] from rfl] at q2
  clear l3
  go_wp2_with fail
  refine (prefix_a w3).mono ?_
  rintro e w4 ⟨v4, rfl, q4, l4⟩
  have L4 := Lib.hid (L3.out.trans (l4.mono L3.out.size))
  clear l4 q1 q2
  go_wp2_with fail
  go_ret
  exact ⟨rfl, L4.out⟩
end Go.Proofs.YtpmhefdalhohdaaDoor
