/- json.May: which values may be; the document's May. -/
import Derived.Test.YtpmhefdalhohdaaDoorVAssert
import Derived.Test.YtpmhefdalhohdaaDoorVUtf
import Derived.Test.YtpmhefdalhohdaaDoorShelf
import Derived.Maps.OwnSet
namespace Go.Proofs.YtpmhefdalhohdaaDoor
open Go.RowKit
set_option linter.unusedVariables false

/-- The library's two tables hold what they hold. -/
def TabU (w : World) : Prop := Lib.Utf8Tabs (Tryd.laysValid_ren.g 3) (Tryd.laysValid_ren.g 4) w
theorem TabU.below {w w' : World} (h : TabU w) (hb : Below w.heap.size w w') : TabU w' := Utf8Tabs_below h hb
theorem valid_any (s : ByteArray) (w : World) (hs : s.size ≤ 140737488351232) (h : TabU w) :
    Calls Tryd.prog 74 #[.string s] w fun e w' => e = .returned (.bool (utfB s)) ∧ Below w.heap.size w w' := Tryd.utf8_ValidString s w (by omega) h
set_option maxHeartbeats 1000000 in
theorem mayText_any (s : ByteArray) (w : World) (hs : s.size ≤ 140737488351232) (h : TabU w) :
    Calls Tryd.prog 61 #[.string s] w fun e w' => e = .returned (.int .i64 (if utfB s = true then 0 else 11)) ∧ Below w.heap.size w w' := by
  have C := valid_any s w hs h
  have HC := Lib.hid C
  cases hu : utfB s
  all_goals
    rw [hu] at HC
    clear C h hu
    go_enter Tryd.func61, Tryd.ntmps61
    go_wp2_with fail
    refine HC.out.mono ?_
    rintro e w1 ⟨rfl, l1⟩
    have L1 := Lib.hid l1
    clear l1
    go_wp2_with fail
    go_ret
    exact ⟨rfl, L1.out⟩
set_option maxHeartbeats 1000000 in

/-- A set of names in block b: of the first k of some. -/
def NameSet (w : World) (b : Nat) (g : Nat → ByteArray) (k : Nat) : Prop := ∃ D : DataW Unit, w.ownsMap Tryd.prog 9 unitElem b k D ∧ ∀ s : ByteArray, Maps.has D (.string s.data.toList) = amongB g s k
theorem strKeyed : Go.Maps.Keyed Tryd.prog 9 := Go.Maps.string_keyed Tryd.underlying9
theorem NameSet.kept {w w' : World} {b k : Nat} {g : Nat → ByteArray} {r : Option Nat} (h : NameSet w b g k) (hg : w.grownBy w' r) (hne : some b ≠ r) : NameSet w' b g k := by
  obtain ⟨D, h1, h2⟩ := h
  exact ⟨D, h1.kept hg hne, h2⟩
theorem NameSet.below {w w' : World} {b k : Nat} {g : Nat → ByteArray} (h : NameSet w b g k) (hb : Below w.heap.size w w') : NameSet w' b g k := h.kept (grown_of_below (r := none) hb) (by simp)
theorem NameSet.made (w : World) (g : Nat → ByteArray) : NameSet (w.alloc (.map #[] 0)) w.heap.size g 0 := ⟨_, World.ownsMap_made _ _ _ _, fun s => by simp [Maps.has, amongB]⟩
theorem put_has {w : World} {b k : Nat} {g : Nat → ByteArray} {D : DataW Unit} (h : w.ownsMap Tryd.prog 9 unitElem b k D) (hh : ∀ s : ByteArray, Maps.has D (.string s.data.toList) = amongB g s k) (s : ByteArray) :
    Maps.has (D.put (.string (g k).data.toList) (.agg [])) (.string s.data.toList) = amongB g s (k + 1) := by
  have hM := h.isMap
  rw [amongB]
  by_cases e : g k = s
  · rw [← e, Maps.has_put_same hM (by simp [WideAt.IsKeyLit])]
    simp
  · have hne : Lit.string s.data.toList ≠ Lit.string (g k).data.toList := fun q => e (by
      injection q with q
      obtain ⟨⟨l⟩⟩ := s
      generalize g k = t at q ⊢
      obtain ⟨⟨l2⟩⟩ := t
      simp at q
      rw [q])
    rw [Maps.has_put_other hne, hh]
    simp [e]
/-- What add leaves. -/
def AddP (b : Nat) (g : Nat → ByteArray) (k : Nat) (w : World) (e : Ending) (w' : World) : Prop :=
  e = .returned (.bool (!amongB g (g k) k)) ∧ (amongB g (g k) k = false → NameSet w' b g (k + 1)) ∧ w.grownBy w' (some b)
theorem zeroUnit (w : World) : (zeroValue 117).run Tryd.prog w = .ok (.agg #[]) w := by kernel_rfl
set_option maxHeartbeats 2000000 in
set_option maxRecDepth 100000 in
theorem add_any (b : Nat) (g : Nat → ByteArray) (k : Nat) (w : World) (h : NameSet w b g k) (hs : (g k).size ≤ 140737488351232) (hk : k ≤ 1000000000000) :
    Calls Tryd.prog 75 #[.map (some b), .string (g k)] w (AddP b g k w) := by
  obtain ⟨D, hown, hh⟩ := h
  have hkey : keyOf Tryd.prog 9 (.string (g k)) = some (.string (g k).data.toList) := WideMaps.keyOf_string_mk Tryd.underlying9 (by unfold maxLen; omega)
  have HK := Lib.hid hkey
  have HO := Lib.hid hown
  have HH := Lib.hid hh
  have HB := Lib.hid (hown.lt)
  have HP := Lib.hid (put_has hown hh)
  obtain ⟨n, hn⟩ : ∃ n, n = g k := ⟨_, rfl⟩
  rw [← hn] at HK HP hs ⊢
  have HN := Lib.hid hn
  cases ha : amongB g n k
  all_goals
    have HA := Lib.hid ha
    have e1 : Maps.has D (.string n.data.toList) = amongB g n k := hh n
    rw [ha] at e1
    have HE := Lib.hid e1
    clear hkey hown hh hn ha e1
    go_enter Tryd.func75, Tryd.ntmps75
    go_wp2_with (first
      | (at_lookup; refine wpList_lookup_own_unit _ rfl _ _ 109 rfl 9 117 strKeyed Tryd.underlying109 (zeroUnit _) b k _ rfl HO.out _ _ rfl HK.out ?_; rw [HE.out])
      | (at_mapUpdate; refine wpList_mapUpdate_own _ rfl _ _ _ 109 rfl 9 117 strKeyed Tryd.underlying109 (unitElem (H := Unit)) b k _ rfl (HO.out.alloc _) (by unfold maxLen; omega) _ _ _ rfl rfl HK.out _ [] unitElem_mk ?_))
  · intro w1 hown1 hgrow1
    have HO1 := Lib.hid hown1
    have HG1 := Lib.hid hgrow1
    clear hown1 hgrow1
    go_wp2_with fail
    go_ret
    refine ⟨by rw [← HN.out, HA.out]; rfl, fun _ => ⟨_, HO1.out, fun s => ?_⟩, (World.grownBy_alloc w _ _).trans HG1.out⟩
    exact HP.out s
  · go_wp2_with fail
    go_ret
    exact ⟨by rw [← HN.out, HA.out]; rfl, (fun h => by rw [← HN.out, HA.out] at h; cases h), World.grownBy_alloc w _ _⟩
end Go.Proofs.YtpmhefdalhohdaaDoor
