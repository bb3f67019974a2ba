/- The contract of awake: what the chapter's examples say. -/
import Derived.Test.YtmeijienfdefjaaDAfter
import Derived.Deep.RegionHeldLaw
namespace Go.Proofs.Ytmeijienfdefjaa
open Go.RowKit

/-- append onto bytes of the call's own, as a step of a region that draws its order. -/
theorem step_append_bytes {P : Program} {ops : Array Oper} {o : Oper} {a : Act} {w : World} {K : Act → World → Prop} {Q : Exit → Act → World → Prop} {E : Prop} (hw : Region.wanted o (yielded ops a.tmps) = true) (s x : Operand) (t : TypeId)
    (ho : o.op = .call { callee := .builtin .append, args := #[s, x], argTypes := #[t, t] }) (ht : P.underlying t = some (.slice 5))
    (hinfo : (P.info? 5).map (fun i => (i.zero, i.size, i.bytes)) = some (some (.int .u8 0), 1, 1))
    (base : Nat) (A : Option Addr) (n c : Nat) (F : Nat → Nat) (hs : a.eval s = .slice A n c) (hown : OwnB w base A n c F)
    (ad : Addr) (m d : Nat) (G : Nat → Nat) (hx : a.eval x = .slice (some ad) m d) (hsrc : Bytes w (some ad) m G) (k : Nat) (hk : n + m = k) (hsmall : k ≤ 140737488355328) (hbase : base ≤ w.heap.size)
    (h : ∀ A' c' w', Hid (OwnB w' base A' k c' (catF F n G)) → Hid (w.grownBy w' (blkOf A)) → K (a.put o.dst (.slice A' k c')) w') :
    if Region.wanted o (yielded ops a.tmps) = true then Oper.wp P o a w K Q else E := by
  subst hk
  rw [if_pos hw]
  obtain ⟨i0, hi0, hz0, hz1, hz2⟩ := info_parts hinfo
  obtain ⟨v', w', hr, ho1, hg1, _, hb1⟩ := run_append_own_at (P := P) w base t o.type 5 i0 (.int .u8 0) 1 1 ht hi0 hz0 hz1 hz2 rfl (by omega) _ n _ hown.1 ad m d (cellsOfF G m) (by simp [cellsOfF]) (by
    intro j v hv
    obtain ⟨hj, rfl⟩ := cellsOfF_get hv
    obtain ⟨b, ob, e, hc⟩ := hsrc.2.2 (by omega)
    injection e with e
    subst e
    have := hc j hj
    unfold Addr.add
    split
    · rename_i h0; subst h0; simpa using this
    · simpa using this) (by
    intro v hv
    obtain ⟨k, _, rfl⟩ := List.mem_map.1 hv
    rfl) (by unfold maxLen; omega) (by omega) hbase
  unfold Oper.wp execOp
  simp only [ho, resolve, invoke, builtin, Sem.run_bind, Sem.run_pure, Result.andThen_ok, List.map_toArray, List.map_cons, List.map_nil, hs, hx, hr]
  rw [cells_cat] at ho1
  have hF : ∀ i, i < n + m → catF F n G i < 256 := fun i hi => by
    unfold catF
    split
    · exact hown.2.1 i (by omega)
    · exact hsrc.2.1 _ (by omega)
  have hg2 : w.grownBy w' (blkOf A) := by rcases A with _ | a0 <;> exact hg1
  have ho2 := ho1
  rcases ho1 with ⟨_, ⟨rfl, h0⟩ | ⟨g, cap, cur, rfl, _, _, hc1, hc2, _⟩⟩
  · have := h none 0 w' ⟨by rw [h0] at ho2 ⊢; exact ho2, hF, by omega, by omega, fun _ => rfl⟩ hg2
    rw [h0] at this
    exact this
  · exact h (some ⟨g, 0, none⟩) cap w' ⟨ho2, hF, hc1, by unfold maxLen at hc2; exact hc2, fun e => by cases e⟩ hg2

theorem BRow.ownB {w : World} {g n base : Nat} {F : Nat → Nat} (h : BRow w g n F) (hb : base ≤ g) (_hn : n ≤ 1000000) : OwnB w base (some ⟨g, 0, none⟩) n n F := by
  obtain ⟨⟨c, h1, h2, h3⟩, h4, h5⟩ := h
  refine ⟨⟨by simp [cellsOfF], .inr ⟨g, n, c, rfl, hb, h1, Nat.le_refl _, by unfold maxLen; omega, by omega, ?_⟩⟩, h4, Nat.le_refl _, h5, fun e => by cases e⟩
  rw [Nat.mul_one, List.take_of_length_le (by simp; omega)]
  apply List.ext_getElem?
  intro i
  rcases Nat.lt_or_ge i n with hi | hi
  · rw [Array.getElem?_toList, h3 i hi]
    unfold cellsOfF
    rw [List.getElem?_map, List.getElem?_range hi]
    rfl
  · rw [List.getElem?_eq_none (by simp; omega), List.getElem?_eq_none (by simp [cellsOfF]; omega)]

/-- The states that awake goes through. -/
def aw1 : DS := strikeS (keepS (newS 2 64) 0 (fun _ => 1))
def aw2 : DS := crashS aw1 (fun _ => 3) 1
def aw3 : DS := strikeS (keepS (armS aw2 1) 1 (fun _ => 2))
def aw4 : DS := crashS aw3 (fun _ => 64) 1
def aF (i : Nat) : Nat := catF (fun _ => 1) 3 (fun _ => 0) i
theorem aw2_now : ∀ i, i < 64 → aw2.now 0 i = aF i := by decide +kernel
theorem aw4_now : ∀ i, i < 64 → aw4.now 1 i = 2 := by decide +kernel

theorem keep_conv {w w' : World} {g : Nat} {F : Nat → Nat} (h : BRow w g 64 F) (l : Below w.heap.size w w') : (convert 42 9 (.slice (some ⟨g, 0, none⟩) 64 64)).run Try.prog w' = .ok (.string (strF F 64)) w' := by
  have b := (h.below l h.lt).bytes (o := 0) (m := 64) (by omega)
  exact conv_any 64 (b.congr fun i _ => by rw [Nat.zero_add])

end Go.Proofs.Ytmeijienfdefjaa
