/- Bytes that the call gathers by append: what it owns, and the law. -/
import Derived.Test.YtmeijienfdefjaaMCopy
import Derived.Laws.AppendOwnNone
namespace Go.Proofs.Ytmeijienfdefjaa
open Go.RowKit

theorem u8infoAll : (Try.prog.info? 5).map (fun i => (i.zero, i.size, i.bytes)) = some (some (.int .u8 0), 1, 1) := by kernel_rfl

/-- The slice A, n, c is the call's own (of blocks from base on), its bytes are F. -/
def OwnB (w : World) (base : Nat) (A : Option Addr) (n c : Nat) (F : Nat → Nat) : Prop :=
  w.ownsRow base 5 1 (.slice A n c) n (cellsOfF F n) ∧ (∀ i, i < n → F i < 256) ∧ n ≤ c ∧ c ≤ 9223372036854775807 ∧ (A = none → c = 0)
def catF (F : Nat → Nat) (n : Nat) (G : Nat → Nat) (i : Nat) : Nat := if i < n then F i else G (i - n)
/-- The block that a slice lies in. -/
def blkOf (A : Option Addr) : Option Nat := A.map fun a => a.block

theorem cells_cat (F G : Nat → Nat) (n m : Nat) : cellsOfF F n ++ cellsOfF G m = cellsOfF (catF F n G) (n + m) := by
  unfold cellsOfF
  rw [List.range_add, List.map_append, List.map_map]
  congr 1
  · apply List.map_congr_left
    intro i hi
    have := List.mem_range.1 hi
    unfold catF
    rw [if_pos this]
  · apply List.map_congr_left
    intro i _
    show Value.int .u8 (G i) = Value.int .u8 (catF F n G (n + i))
    unfold catF
    rw [if_neg (by omega), Nat.add_sub_cancel_left]
theorem cells_congr {F G : Nat → Nat} {n : Nat} (h : ∀ i, i < n → F i = G i) : cellsOfF F n = cellsOfF G n := by
  unfold cellsOfF
  apply List.map_congr_left
  intro i hi
  rw [h i (List.mem_range.1 hi)]

section
variable {w w' : World} {base n c : Nat} {A : Option Addr} {F G : Nat → Nat}
theorem OwnB.none_ (w : World) (base : Nat) (F : Nat → Nat) : OwnB w base none 0 0 F := ⟨World.ownsRow_nil w base _ 1, fun i hi => absurd hi (by omega), by omega, by omega, fun _ => rfl⟩
theorem OwnB.congr (h : OwnB w base A n c F) (e : ∀ i, i < n → F i = G i) : OwnB w base A n c G := by
  obtain ⟨h1, h2, h3⟩ := h
  rw [cells_congr e] at h1
  exact ⟨h1, fun i hi => by rw [← e i hi]; exact h2 i hi, h3⟩
theorem OwnB.at_ (h : OwnB w base A n c F) (hn : 0 < n) : ∃ g, A = some ⟨g, 0, none⟩ ∧ base ≤ g ∧ ∀ i, i < n → w.cell? ⟨g, i, none⟩ = some (.int .u8 (F i)) := by
  obtain ⟨⟨hl, ⟨hv, h0⟩ | ⟨g, cap, cur, hv, hg, hh, r⟩⟩, _⟩ := h
  · omega
  · injection hv with hv1 hv2 hv3
    subst hv1 hv3
    refine ⟨g, rfl, hg, fun i hi => ?_⟩
    have hc := World.ownsRow.cellAt (w := w) (base := base) (e := 5) (size := 1) ⟨hl, .inr ⟨g, c, cur, rfl, hg, hh, r⟩⟩ i (by omega)
    rw [hc]
    unfold cellsOfF
    rw [List.getElem?_map, List.getElem?_range hi]
    rfl
theorem OwnB.bytes (h : OwnB w base A n c F) : Bytes w A n F := by
  refine ⟨by have := h.2.2; omega, h.2.1, fun hn => ?_⟩
  obtain ⟨g, rfl, _, hc⟩ := h.at_ hn
  exact ⟨g, 0, rfl, fun i hi => by rw [Nat.zero_add]; exact hc i hi⟩
theorem OwnB.kept {row : Option Nat} (h : OwnB w base A n c F) (hg : w.grownBy w' row) (hne : A = none ∨ blkOf A ≠ row) : OwnB w' base A n c F := by
  refine ⟨h.1.kept hg ?_, h.2⟩
  rcases A with _ | a
  · exact .inl rfl
  · rcases hne with h0 | h0
    · cases h0
    · exact .inr h0
theorem OwnB.below (h : OwnB w base A n c F) (hb : Below w.heap.size w w') : OwnB w' base A n c F :=
  h.kept (grown_below (r := none) hb) (by
    rcases A with _ | a
    · exact .inl rfl
    · exact .inr (by intro e; cases e))
theorem OwnB.base_le (h : OwnB w base A n c F) {k : Nat} (hk : blkOf A = some k) : base ≤ k ∧ k < w.heap.size := by
  refine h.1.lt k ?_
  rcases A with _ | a
  · cases hk
  · exact hk
end

theorem wpList_append_bytes {P : Program} (w : World) {ops : Array Oper} {rest : List Oper} {o : Oper} {a : Act} {Q : Exit → Act → World → Prop} (hgd : o.guard = none) (s x : Operand) (t : TypeId)
    (ho : o.op = .call { callee := .builtin .append, args := #[s, x], argTypes := #[t, t] }) (ht : P.underlying t = some (.slice 5))
    (hinfo : (P.info? 5).map (fun i => (i.zero, i.size, i.bytes)) = some (some (.int .u8 0), 1, 1))
    (base : Nat) (A : Option Addr) (n c : Nat) (F : Nat → Nat) (hs : a.eval s = .slice A n c) (hown : OwnB w base A n c F)
    (B : Option Addr) (m d : Nat) (G : Nat → Nat) (hx : a.eval x = .slice B m d) (hsrc : Bytes w B m G) (hnil : B = none → d = 0) (hsmall : n + m ≤ 140737488355328) (hbase : base ≤ w.heap.size)
    (h : ∀ A' c' w', OwnB w' base A' (n + m) c' (catF F n G) → w.grownBy w' (blkOf A) → (blkOf A' = blkOf A ∨ blkOf A' = some w.heap.size) → wpList P ops Q rest (a.put o.dst (.slice A' (n + m) c')) w') : wpList P ops Q (o :: rest) a w := by
  obtain ⟨i0, hi0, hz0, hz1, hz2⟩ := info_parts hinfo
  rcases B with _ | ad
  · have hm : m = 0 := by
      rcases Nat.eq_zero_or_pos m with h0 | h0
      · exact h0
      · obtain ⟨b, ob, e, _⟩ := hsrc.2.2 h0; cases e
    have hd := hnil rfl
    subst hm hd
    refine wpList_append_own_none hgd s x t ho base _ i0 1 ht hi0 _ n _ hs hown.1 hx ?_
    exact h A c w (hown.congr fun i hi => by unfold catF; rw [if_pos hi]) (World.grownBy.refl w _) (.inl rfl)
  · refine wpList_append_own_at w hgd s x t ho base _ i0 (.int .u8 0) 1 1 ht hi0 hz0 hz1 hz2 rfl (by omega) _ n _ hs hown.1 ad m d (cellsOfF G m) hx (by simp [cellsOfF]) ?_ ?_ (by unfold maxLen; omega) (by omega) hbase ?_
    · intro j v hv
      obtain ⟨hj, rfl⟩ := cellsOfF_get hv
      obtain ⟨b, ob, e, hc⟩ := hsrc.2.2 (by omega)
      injection e with e
      subst e
      have := hc j hj
      unfold Addr.add
      split
      · rename_i h0; subst h0; simpa using this
      · simpa using this
    · intro v hv
      obtain ⟨k, _, rfl⟩ := List.mem_map.1 hv
      rfl
    · intro v' w' ho1 hg1 _ hb1
      rw [cells_cat] at ho1
      have hF : ∀ i, i < n + m → catF F n G i < 256 := fun i hi => by
        unfold catF
        split
        · exact hown.2.1 i (by omega)
        · exact hsrc.2.1 _ (by omega)
      have hg2 : w.grownBy w' (blkOf A) := by rcases A with _ | a0 <;> exact hg1
      have hb2 : v'.ownBlock = blkOf A ∨ v'.ownBlock = some w.heap.size := by rcases A with _ | a0 <;> exact hb1
      have ho2 := ho1
      rcases ho1 with ⟨_, ⟨rfl, h0⟩ | ⟨g, cap, cur, rfl, _, _, hc1, hc2, _⟩⟩
      · have := h none 0 w' ⟨by rw [h0] at ho2 ⊢; exact ho2, hF, by omega, by omega, fun _ => rfl⟩ hg2 hb2
        rw [h0] at this
        exact this
      · exact h (some ⟨g, 0, none⟩) cap w' ⟨ho2, hF, hc1, by unfold maxLen at hc2; exact hc2, fun e => by cases e⟩ hg2 hb2
def pushF (F : Nat → Nat) (n v : Nat) (i : Nat) : Nat := if i < n then F i else v
theorem one_bytes (w : World) (z : Int) (h0 : 0 ≤ z) (h1 : z < 256) : Bytes (w.alloc (.cells #[.int .u8 z] 5)) (some ⟨w.heap.size, 0, none⟩) 1 (fun _ => z.toNat) := by
  refine ⟨by omega, fun _ _ => (by omega : z.toNat < 256), fun _ => ⟨_, _, rfl, fun i hi => ?_⟩⟩
  obtain rfl : i = 0 := by omega
  rw [Int.toNat_of_nonneg h0]
  simp
/-- One byte is appended: it lies in a new block of its own. -/
theorem wpList_push {P : Program} (w : World) {ops : Array Oper} {rest : List Oper} {o : Oper} {a : Act} {Q : Exit → Act → World → Prop} (hgd : o.guard = none) (s x : Operand) (t : TypeId)
    (ho : o.op = .call { callee := .builtin .append, args := #[s, x], argTypes := #[t, t] }) (ht : P.underlying t = some (.slice 5))
    (hinfo : (P.info? 5).map (fun i => (i.zero, i.size, i.bytes)) = some (some (.int .u8 0), 1, 1))
    (base : Nat) (A : Option Addr) (n c : Nat) (F : Nat → Nat) (hs : a.eval s = .slice A n c) (hown : OwnB w base A n c F)
    (z : Int) (hx : a.eval x = .slice (some ⟨w.heap.size, 0, none⟩) 1 1) (h0 : 0 ≤ z) (h1 : z < 256) (hsmall : n + 1 ≤ 140737488355328) (hbase : base ≤ w.heap.size)
    (h : ∀ A' c' w', OwnB w' base A' (n + 1) c' (pushF F n z.toNat) → Below base w w' → wpList P ops Q rest (a.put o.dst (.slice A' (n + 1) c')) w') :
    wpList P ops Q (o :: rest) a (w.alloc (.cells #[.int .u8 z] 5)) := by
  have o2 : OwnB (w.alloc (.cells #[.int .u8 z] 5)) base A n c F := hown.kept (World.grownBy_alloc w _ none) (by
    rcases A with _ | a
    · exact .inl rfl
    · exact .inr (by intro e; cases e))
  refine wpList_append_bytes _ hgd s x t ho ht hinfo base A n c F hs o2 _ 1 1 _ hx (one_bytes w z h0 h1) (fun e => by cases e) hsmall (by simp; omega) ?_
  intro A' c' w' ho' hg _
  refine h A' c' w' (ho'.congr fun i _ => rfl) ?_
  exact ((Below.refl base w).alloc hbase _).grown hg (by simp; omega) fun k hk => (o2.base_le hk).1
theorem own_empty (w : World) (F : Nat → Nat) : OwnB (w.alloc (.cells #[] 5)) w.heap.size (some ⟨w.heap.size, 0, none⟩) 0 0 F :=
  ⟨World.ownsRow_lit w #[] 0 (Nat.le_refl _) (by unfold maxLen; omega) rfl, fun i hi => absurd hi (by omega), by omega, by omega, fun e => by cases e⟩

theorem OwnB.cell {w : World} {base n c : Nat} {A : Option Addr} {F : Nat → Nat} (h : OwnB w base A n c F) {i : Nat} (hi : i < n) : ∃ g, A = some ⟨g, 0, none⟩ ∧ base ≤ g ∧ w.cell? ⟨g, i, none⟩ = some (.int .u8 (F i)) := by
  obtain ⟨g, e, hb, hc⟩ := h.at_ (by omega)
  exact ⟨g, e, hb, hc i hi⟩

end Go.Proofs.Ytmeijienfdefjaa
