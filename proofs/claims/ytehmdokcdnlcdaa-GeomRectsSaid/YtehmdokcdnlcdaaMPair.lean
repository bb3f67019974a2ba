/- Rows of elements of two cells that the call gathers by append: what it owns, and the law. No word of a package. -/
import Derived.Test.YtehmdokcdnlcdaaMMem
import Derived.Laws.AppendOwnNone
import Derived.Maps.AppendAt
import Derived.ProofKit
import Derived.WalkKit
import Derived.Lib.Hide
import Derived.Deep.RegionHeldLaw
namespace Go.Proofs.Ytehmdokcdnlcdaa
open Go.RowKit
set_option linter.unusedVariables false

/-- A slice of elements of two cells that can be read: cell j is co j. -/
def Cells2 (w : World) (A : Option Addr) (n : Nat) (co : Nat → Value) : Prop :=
  n ≤ 9223372036854775807 ∧ (0 < n → ∃ b o, A = some ⟨b, o, none⟩ ∧ ∀ j, j < n * 2 → w.cell? ⟨b, o + j, none⟩ = some (co j))
def rowC (co : Nat → Value) (n : Nat) : List Value := (List.range (n * 2)).map co
/-- The slice A, n, c is the call's own (of blocks from base on). -/
def OwnC (T : TypeId) (w : World) (base : Nat) (A : Option Addr) (n c : Nat) (co : Nat → Value) : Prop :=
  w.ownsRow base T 2 (.slice A n c) n (rowC co n) ∧ n ≤ c ∧ c ≤ 9223372036854775807 ∧ (A = none → c = 0)
def catC (co : Nat → Value) (n : Nat) (do_ : Nat → Value) (j : Nat) : Value := if j < n * 2 then co j else do_ (j - n * 2)
/-- The block that a slice lies in. -/
def blkA (A : Option Addr) : Option Nat := A.map fun a => a.block

theorem row_cat (F G : Nat → Value) (n m : Nat) : rowC F n ++ rowC G m = rowC (catC F n G) (n + m) := by
  unfold rowC
  rw [Nat.add_mul, List.range_add, List.map_append, List.map_map]
  congr 1
  · apply List.map_congr_left
    intro i hi
    have := List.mem_range.1 hi
    unfold catC
    rw [if_pos this]
  · apply List.map_congr_left
    intro i _
    show G i = catC F n G (n * 2 + i)
    unfold catC
    rw [if_neg (by omega), Nat.add_sub_cancel_left]
theorem row_congr {F G : Nat → Value} {n : Nat} (h : ∀ i, i < n * 2 → F i = G i) : rowC F n = rowC G n := by
  unfold rowC
  apply List.map_congr_left
  intro i hi
  rw [h i (List.mem_range.1 hi)]
theorem row_get {F : Nat → Value} {n j : Nat} {v : Value} (h : (rowC F n)[j]? = some v) : j < n * 2 ∧ v = F j := by
  unfold rowC at h
  rw [List.getElem?_map] at h
  by_cases hj : j < n * 2
  · rw [List.getElem?_range hj] at h
    exact ⟨hj, by injection h with h; exact h.symm⟩
  · rw [List.getElem?_eq_none (by simpa using hj)] at h
    cases h
theorem grown_of_below {w w' : World} {r : Option Nat} (hb : Below w.heap.size w w') : w.grownBy w' r := by
  exact grown_below hb

section
variable {T : TypeId} {w w' : World} {base n c : Nat} {A : Option Addr} {F G : Nat → Value}
theorem OwnC.none_ (T : TypeId) (w : World) (base : Nat) (F : Nat → Value) : OwnC T w base none 0 0 F := ⟨World.ownsRow_nil w base _ 2, by omega, by omega, fun _ => rfl⟩
theorem OwnC.congr (h : OwnC T w base A n c F) (e : ∀ i, i < n * 2 → F i = G i) : OwnC T w base A n c G := by
  obtain ⟨h1, h3⟩ := h
  rw [row_congr e] at h1
  exact ⟨h1, h3⟩
theorem OwnC.at_ (h : OwnC T w base A n c F) (hn : 0 < n) : ∃ g, A = some ⟨g, 0, none⟩ ∧ base ≤ g ∧ g < w.heap.size ∧ ∀ i, i < n * 2 → w.cell? ⟨g, i, none⟩ = some (F i) := by
  obtain ⟨⟨hl, ⟨hv, h0⟩ | ⟨g, cap, cur, hv, hg, hh, r⟩⟩, _⟩ := h
  · omega
  · injection hv with hv1 hv2 hv3
    subst hv1 hv3
    refine ⟨g, rfl, hg, ?_, fun i hi => ?_⟩
    · rcases Nat.lt_or_ge g w.heap.size with hlt | hge
      · exact hlt
      · rw [Array.getElem?_eq_none hge] at hh; cases hh
    have hc := World.ownsRow.cellAt (w := w) (base := base) (e := T) (size := 2) ⟨hl, .inr ⟨g, c, cur, rfl, hg, hh, r⟩⟩ i (by omega)
    rw [hc]
    unfold rowC
    rw [List.getElem?_map, List.getElem?_range hi]
    rfl
theorem OwnC.cells (h : OwnC T w base A n c F) : Cells2 w A n F := by
  refine ⟨by have := h.2; omega, fun hn => ?_⟩
  obtain ⟨g, rfl, _, _, hc⟩ := h.at_ hn
  exact ⟨g, 0, rfl, fun i hi => by rw [Nat.zero_add]; exact hc i hi⟩
theorem OwnC.kept {row : Option Nat} (h : OwnC T w base A n c F) (hg : w.grownBy w' row) (hne : A = none ∨ blkA A ≠ row) : OwnC T w' base A n c F := by
  refine ⟨h.1.kept hg ?_, h.2⟩
  rcases A with _ | a
  · exact .inl rfl
  · rcases hne with h0 | h0
    · cases h0
    · exact .inr h0
theorem OwnC.below (h : OwnC T w base A n c F) (hb : Below w.heap.size w w') : OwnC T w' base A n c F :=
  h.kept (grown_of_below (r := none) hb) (by
    rcases A with _ | a
    · exact .inl rfl
    · exact .inr (by intro e; cases e))
theorem OwnC.base_le (h : OwnC T w base A n c F) {k : Nat} (hk : blkA A = some k) : base ≤ k ∧ k < w.heap.size := by
  refine h.1.lt k ?_
  rcases A with _ | a
  · cases hk
  · exact hk
theorem OwnC.empty (T : TypeId) (w : World) (base : Nat) (hb : base ≤ w.heap.size) (F : Nat → Value) : OwnC T (w.alloc (.cells #[] T)) base (some ⟨w.heap.size, 0, none⟩) 0 0 F :=
  ⟨World.ownsRow_made w #[] 0 hb (by unfold maxLen; omega) rfl, by omega, by omega, fun e => by cases e⟩
end

theorem infoParts {P : Program} {T : TypeId} {z : Value} {s b : Nat} (h : (P.info? T).map (fun i => (i.zero, i.size, i.bytes)) = some (some z, s, b)) : ∃ i, P.info? T = some i ∧ i.zero = some z ∧ i.size = s ∧ i.bytes = b := by
  cases hi : P.info? T with
  | none => rw [hi] at h; cases h
  | some i =>
    rw [hi] at h
    injection h with h
    injection h with h1 h2
    injection h2 with h2 h3
    exact ⟨i, rfl, h1, h2, h3⟩
theorem wpList_append_two {P : Program} (w : World) {ops : Array Oper} {rest : List Oper} {o : Oper} {a : Act} {Q : Exit → Act → World → Prop} (hgd : o.guard = none) (s x : Operand) (t T : TypeId) (z : Value) (hz : z.cells.size = 2)
    (ho : o.op = .call { callee := .builtin .append, args := #[s, x], argTypes := #[t, t] }) (ht : P.underlying t = some (.slice T))
    (hinfo : (P.info? T).map (fun i => (i.zero, i.size, i.bytes)) = some (some z, 2, 16))
    (base : Nat) (A : Option Addr) (n c : Nat) (F : Nat → Value) (hs : a.eval s = .slice A n c) (hown : OwnC T w base A n c F)
    (B : Option Addr) (m d : Nat) (G : Nat → Value) (hx : a.eval x = .slice B m d) (hsrc : Cells2 w B m G) (h1 : ∀ j, (G j).oneCell' = true) (hnil : B = none → d = 0) (hsmall : (n + m) * 16 ≤ 140737488355328) (hbase : base ≤ w.heap.size)
    (h : ∀ A' c' w', OwnC T w' base A' (n + m) c' (catC F n G) → w.grownBy w' (blkA A) → (blkA A' = blkA A ∨ blkA A' = some w.heap.size) → wpList P ops Q rest (a.put o.dst (.slice A' (n + m) c')) w') : wpList P ops Q (o :: rest) a w := by
  obtain ⟨i0, hi0, hz0, hz1, hz2⟩ := infoParts hinfo
  rcases B with _ | ad
  · have hm : m = 0 := by
      rcases Nat.eq_zero_or_pos m with h0 | h0
      · exact h0
      · obtain ⟨b, ob, e, _⟩ := hsrc.2 h0; cases e
    have hd := hnil rfl
    subst hm hd
    refine wpList_append_own_none hgd s x t ho base _ i0 2 ht hi0 _ n _ hs hown.1 hx ?_
    exact h A c w (hown.congr fun i hi => by unfold catC; rw [if_pos hi]) (World.grownBy.refl w _) (.inl rfl)
  · refine wpList_append_own_at w hgd s x t ho base _ i0 z 2 16 ht hi0 hz0 hz1 hz2 hz (by omega) _ n _ hs hown.1 ad m d (rowC G m) hx (by simp [rowC]) ?_ ?_ (by unfold maxLen; omega) hsmall hbase ?_
    · intro j v hv
      obtain ⟨hj, rfl⟩ := row_get hv
      obtain ⟨b, ob, e, hc⟩ := hsrc.2 (by omega)
      injection e with e
      subst e
      have := hc j hj
      unfold Addr.add
      split
      · rename_i h0; subst h0; simpa using this
      · simpa using this
    · intro v hv
      obtain ⟨k, _, rfl⟩ := List.mem_map.1 hv
      exact h1 k
    · intro v' w' ho1 hg1 _ hb1
      rw [row_cat] at ho1
      have hg2 : w.grownBy w' (blkA A) := by rcases A with _ | a0 <;> exact hg1
      have hb2 : v'.ownBlock = blkA A ∨ v'.ownBlock = some w.heap.size := by rcases A with _ | a0 <;> exact hb1
      have ho2 := ho1
      rcases ho1 with ⟨_, ⟨rfl, h0⟩ | ⟨g, cap, cur, rfl, _, _, hc1, hc2, _⟩⟩
      · have := h none 0 w' ⟨by rw [h0] at ho2 ⊢; exact ho2, by omega, by omega, fun _ => rfl⟩ hg2 hb2
        rw [h0] at this
        exact this
      · exact h (some ⟨g, 0, none⟩) cap w' ⟨ho2, hc1, by unfold maxLen at hc2; exact hc2, fun e => by cases e⟩ hg2 hb2
/-- The law as a step of a region that draws its order. -/
theorem step_append_two {P : Program} {ops : Array Oper} {o : Oper} {a : Act} {w : World} {K : Act → World → Prop} {Q : Exit → Act → World → Prop} {E : Prop} (hgd : o.guard = none) (s x : Operand) (t T : TypeId) (z : Value) (hz : z.cells.size = 2)
    (ho : o.op = .call { callee := .builtin .append, args := #[s, x], argTypes := #[t, t] }) (ht : P.underlying t = some (.slice T))
    (hinfo : (P.info? T).map (fun i => (i.zero, i.size, i.bytes)) = some (some z, 2, 16))
    (base : Nat) (A : Option Addr) (n c : Nat) (F : Nat → Value) (hs : a.eval s = .slice A n c) (hown : OwnC T w base A n c F)
    (B : Option Addr) (m d : Nat) (G : Nat → Value) (hx : a.eval x = .slice B m d) (hsrc : Cells2 w B m G) (h1 : ∀ j, (G j).oneCell' = true) (hnil : B = none → d = 0) (hsmall : (n + m) * 16 ≤ 140737488355328) (hbase : base ≤ w.heap.size)
    (h : ∀ A' c' w', Hid (OwnC T w' base A' (n + m) c' (catC F n G)) → Hid (w.grownBy w' (blkA A)) → Hid (blkA A' = blkA A ∨ blkA A' = some w.heap.size) → K (a.put o.dst (.slice A' (n + m) c')) w') :
    if Region.wanted o (yielded ops a.tmps) = true then Oper.wp P o a w K Q else E := by
  have hw : Region.wanted o (yielded ops a.tmps) = true := by simp [Region.wanted, hgd]
  rw [if_pos hw]
  obtain ⟨i0, hi0, hz0, hz1, hz2⟩ := infoParts hinfo
  rcases B with _ | ad
  · have hm : m = 0 := by
      rcases Nat.eq_zero_or_pos m with h0 | h0
      · exact h0
      · obtain ⟨b, ob, e, _⟩ := hsrc.2 h0; cases e
    have hd := hnil rfl
    subst hm hd
    have hrun := run_append_owned_none (P := P) (w := w) base t o.type T i0 2 ht hi0 _ n _ hown.1
    unfold Oper.wp
    simp [execOp, ho, resolve, invoke, builtin, hs, hx, hrun, Result.andThen]
    exact h A c w (hown.congr fun i hi => by unfold catC; rw [if_pos hi]) (World.grownBy.refl w _) (.inl rfl)
  · obtain ⟨v', w', hr, ho1, hg1, _, hb1⟩ := run_append_own_at (P := P) w base t o.type T i0 z 2 16 ht hi0 hz0 hz1 hz2 hz (by omega) (.slice A n c) n _ hown.1 ad m d (rowC G m) (by simp [rowC]) (by
      intro j v hv
      obtain ⟨hj, rfl⟩ := row_get hv
      obtain ⟨b, ob, e, hc⟩ := hsrc.2 (by omega)
      injection e with e
      subst e
      have := hc j hj
      unfold Addr.add
      split
      · rename_i h0; subst h0; simpa using this
      · simpa using this) (by
      intro v hv
      obtain ⟨k, _, rfl⟩ := List.mem_map.1 hv
      exact h1 k) (by unfold maxLen; omega) hsmall hbase
    unfold Oper.wp execOp
    simp only [ho, resolve, invoke, builtin, Sem.run_bind, Sem.run_pure, Result.andThen_ok, List.map_toArray, List.map_cons, List.map_nil, hs, hx, hr]
    rw [row_cat] at ho1
    have hg2 : w.grownBy w' (blkA A) := by rcases A with _ | a0 <;> exact hg1
    have hb2 : v'.ownBlock = blkA A ∨ v'.ownBlock = some w.heap.size := by rcases A with _ | a0 <;> exact hb1
    have ho2 := ho1
    rcases ho1 with ⟨_, ⟨rfl, h0⟩ | ⟨g, cap, cur, rfl, _, _, hc1, hc2, _⟩⟩
    · have := h none 0 w' ⟨by rw [h0] at ho2 ⊢; exact ho2, by omega, by omega, fun _ => rfl⟩ hg2 hb2
      rw [h0] at this
      exact this
    · exact h (some ⟨g, 0, none⟩) cap w' ⟨ho2, hc1, by unfold maxLen at hc2; exact hc2, fun e => by cases e⟩ hg2 hb2
/-- Two slices that share no block. -/
def Ap (A B : Option Addr) : Prop := ∀ k, blkA A = some k → blkA B ≠ some k
theorem Ap.symm {A B : Option Addr} (h : Ap A B) : Ap B A := fun k hk e => h k e hk
theorem Ap.none_ (A : Option Addr) : Ap none A := fun k hk => by cases hk
theorem Ap.ne {A B : Option Addr} (h : Ap A B) : A = none ∨ blkA A ≠ blkA B := by
  rcases A with _ | a
  · exact .inl rfl
  · exact .inr fun e => h a.block rfl e.symm
def pushC (co : Nat → Value) (n : Nat) (v0 v1 : Value) (j : Nat) : Value := if j < n * 2 then co j else if j = n * 2 then v0 else v1
/-- What else is the call's own stays. -/
def Stays (T : TypeId) (base : Nat) (w w' : World) (A A' : Option Addr) : Prop := ∀ B m d G, OwnC T w base B m d G → Ap B A → OwnC T w' base B m d G ∧ Ap B A'
theorem cells_one (w : World) (v0 v1 : Value) (T : TypeId) (co : Nat → Value) : Cells2 (w.alloc (.cells #[v0, v1] T)) (some ⟨w.heap.size, 0, none⟩) 1 (fun j => if j = 0 then v0 else v1) := by
  refine ⟨by omega, fun _ => ⟨_, _, rfl, fun j hj => ?_⟩⟩
  rcases j with _ | _ | j
  · simp
  · simp
  · omega
/-- One element is appended: it lies in a new block of its own. -/
theorem wpList_push_two {P : Program} (w : World) {ops : Array Oper} {rest : List Oper} {o : Oper} {a : Act} {Q : Exit → Act → World → Prop} (hgd : o.guard = none) (s x : Operand) (t T : TypeId) (z : Value) (hz : z.cells.size = 2)
    (ho : o.op = .call { callee := .builtin .append, args := #[s, x], argTypes := #[t, t] }) (ht : P.underlying t = some (.slice T))
    (hinfo : (P.info? T).map (fun i => (i.zero, i.size, i.bytes)) = some (some z, 2, 16))
    (base : Nat) (A : Option Addr) (n c : Nat) (F : Nat → Value) (hs : a.eval s = .slice A n c) (hown : OwnC T w base A n c F)
    (v0 v1 : Value) (h0 : v0.oneCell' = true) (h1 : v1.oneCell' = true) (hx : a.eval x = .slice (some ⟨w.heap.size, 0, none⟩) 1 1) (hsmall : (n + 1) * 16 ≤ 140737488355328) (hbase : base ≤ w.heap.size)
    (h : ∀ A' c' w', OwnC T w' base A' (n + 1) c' (pushC F n v0 v1) → Below base w w' → Stays T base w w' A A' → wpList P ops Q rest (a.put o.dst (.slice A' (n + 1) c')) w') :
    wpList P ops Q (o :: rest) a (w.alloc (.cells #[v0, v1] T)) := by
  have hal : ∀ B m d G, OwnC T w base B m d G → OwnC T (w.alloc (.cells #[v0, v1] T)) base B m d G := fun B m d G hB => hB.kept (World.grownBy_alloc w _ none) (by
    rcases B with _ | a
    · exact .inl rfl
    · exact .inr (by intro e; cases e))
  have o2 := hal _ _ _ _ hown
  refine wpList_append_two _ hgd s x t T z hz ho ht hinfo base A n c F hs o2 _ 1 1 _ hx (cells_one w v0 v1 T F) (fun j => by show (if j = 0 then v0 else v1).oneCell' = true; split; exact h0; exact h1) (fun e => by cases e) hsmall (by simp; omega) ?_
  intro A' c' w' ho' hg hfr
  refine h A' c' w' (ho'.congr fun i hi => ?_) ?_ ?_
  · unfold catC pushC
    by_cases h1 : i < n * 2
    · rw [if_pos h1, if_pos h1]
    · rw [if_neg h1, if_neg h1]
      show (if i - n * 2 = 0 then v0 else v1) = _
      by_cases h2 : i = n * 2
      · rw [if_pos h2, if_pos (by omega)]
      · rw [if_neg h2, if_neg (by omega)]
  · exact ((Below.refl base w).alloc hbase _).grown hg (by simp; omega) fun k hk => (o2.base_le hk).1
  · intro B m d G hB hap
    refine ⟨(hal _ _ _ _ hB).kept hg hap.ne, fun k hk e => ?_⟩
    rcases hfr with hfr | hfr
    · exact hap k hk (hfr ▸ e)
    · have h3 := ((hal _ _ _ _ hB).base_le hk).2
      have h4 := (hB.base_le hk).2
      rw [hfr] at e
      injection e with e
      simp at e
      omega
end Go.Proofs.Ytehmdokcdnlcdaa
