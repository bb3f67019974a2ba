/- A loop over an iterator whose elements carry memory that the iterator lays in the very round: what it owes of an element's memory at each yield (Y) is told to the body. No word of any package. -/
import Derived.RangeFuncKeeps
namespace Go.Proofs.Ytmeijienfdefjaa
open Go Go.RowKit
set_option linter.unusedVariables false

/-- A loop's two blocks: its own, and ahead of it the one for the rounds' deferred calls (none). -/
def Bk (D : Nat) (r : Loop) (W : World) : Prop := W.heap[D + 1]? = some (.loop r) ∧ W.heap[D]? = some (.deferred (some []))
variable {P : Program} {F : Fence} {D m : Nat} {r r' : Loop} {W W' : World}
theorem Bk.put (h : Bk D r W) (r' : Loop) : Bk D r' (W.putObj (D + 1) (.loop r')) :=
  ⟨World.putObj_heap_same (Array.getElem?_eq_some_iff.1 h.1).1, (World.putObj_heap_other (by omega)).trans h.2⟩
theorem Bk.others (h : Bk D r W) (k : KeepsOthers W W') : Bk D r W' := ⟨k.same _ _ h.1 rfl, k.same _ _ h.2 rfl⟩
theorem Bk.grown {row : Option Nat} (h : Bk D r W) (hg : W.grownBy W' row) (hr : ∀ q, row = some q → ∃ o : Obj, W.heap[q]? = some o ∧ o.isWalk = true) : Bk D r W' :=
  ⟨(grownBy_keeps hg hr h.1 rfl).trans h.1, (grownBy_keeps hg hr h.2 rfl).trans h.2⟩
theorem Bk.made (W : World) (r : Loop) : Bk W.heap.size r ((W.alloc (.deferred (some []))).alloc (.loop r)) := by
  constructor
  · have := World.alloc_heap_new (W.alloc (.deferred (some []))) (.loop r)
    rwa [World.size_alloc] at this
  · exact (Below.heap_alloc _ _ _ (by simp)).trans (World.alloc_heap_new W _)
/-- One round of a loop that is ready. -/
theorem bk_round {ps : Array Tmp} {tmps : Array Value} {assign body : Code} {fn : FuncId} (e1 : r.params = ps) (e2 : r.tmps = tmps) (e3 : r.assign = assign) (e4 : r.body = body) (e5 : r.fn = fn) (hb : Bk D r W) (hs : r.state = .ready) (hfn : F.fn fn) {args : Array Value} (hsz : args.size = ps.size) {a₁ : Act} {Q : Exit → Act → World → Prop} {R : Ending → World → Prop}
    (hassign : ∀ K : Act → World → Prop, K a₁ W → assign.wpIn (F.inRound (D + 1)) m P (Exit.then K (fun _ _ _ => False)) { tmps := (ps.zip args).foldl (fun t (p, v) => t.setIfInBounds p v) tmps, defers := [] } W)
    (hbody : body.wpIn (F.inRound (D + 1)) m P Q a₁ (W.putObj (D + 1) (.loop { r with state := .busy })))
    (hnorm : ∀ a' W', Q .normal a' W' → KeepsOthers (W.putObj (D + 1) (.loop { r with state := .busy })) W' ∧ R (.returned (.bool true)) (W'.putObj (D + 1) (.loop { r with state := .ready, pending := none })))
    (hret : ∀ a' W', Q .ret a' W' → KeepsOthers (W.putObj (D + 1) (.loop { r with state := .busy })) W' ∧ R (.returned (.bool false)) (W'.putObj (D + 1) (.loop { r with state := .done, pending := some .ret })))
    (hexit : ∀ id a' W', Q (.exit id) a' W' → KeepsOthers (W.putObj (D + 1) (.loop { r with state := .busy })) W' ∧ R (.returned (.bool false)) (W'.putObj (D + 1) (.loop { r with state := .done, pending := some (.exit id) })))
    (hno : ∀ e a' W', Q e a' W' → e = .normal ∨ e = .ret ∨ ∃ id, e = .exit id) : YieldAt F m P (D + 1) args W R := by
  subst e1 e2 e3 e4 e5
  refine ⟨r.fn, _, r.assign, r.body, run_yield hb.1 hsz, roundIn_of_wpIn hfn (hassign _ ⟨_, run_beginRound hb.1 hs, wpIn_mono hbody ?_⟩)⟩
  have hb2 := hb.put { r with state := .busy }
  intro e a' W' hq
  rcases hno e a' W' hq with rfl | rfl | ⟨id, rfl⟩
  · obtain ⟨hk, hR⟩ := hnorm a' W' hq
    exact ⟨_, _, run_endRound none (hb2.others hk).1, hR⟩
  · obtain ⟨hk, hR⟩ := hret a' W' hq
    exact ⟨_, _, run_endRound (some .ret) (hb2.others hk).1, hR⟩
  · obtain ⟨hk, hR⟩ := hexit id a' W' hq
    exact ⟨_, _, run_endRound (some (.exit id)) (hb2.others hk).1, hR⟩
/-- The contract of an iterator that owes Y of each element at its yield. -/
def SeqMem {α : Type} (F : Fence) (n : Nat) (P : Program) (g : Nat) (lb : Array Value) (encs : α → Array Value) (Y : α → World → Prop) (Kp : World → World → Prop) (S Sp : List α → Prop) (N : Nat) (w : World) : Prop :=
  ∀ (l : Nat) (J Jx : List α → World → Prop) (W : World), Below w.heap.size w W → AbidesFrom W.heap.size J → AbidesFrom W.heap.size Jx →
    (∀ pre x W1, J pre W1 → Y x W1 → pre.length < N → YieldAt F (n - 1) P l (encs x) W1 fun e W' =>
      (e = .returned (.bool true) ∧ J (pre ++ [x]) W' ∧ Kp W1 W') ∨ (e = .returned (.bool false) ∧ Jx (pre ++ [x]) W')) →
    J [] W →
    CallsIn F n P g (#[.func (.yield l) #[] #[]] ++ lb) W fun e W' => (∃ v, e = .returned v) ∧ ((∃ xs, S xs ∧ J xs W') ∨ (∃ pre, Sp pre ∧ Jx pre W'))
set_option maxHeartbeats 300000 in
/-- The loop over it. How a round may be left: it goes on, returns, or leaves a block. -/
theorem SeqMem.loop {α : Type} {n : Nat} {g : Operand} {ps : Array Tmp} {assign body : Code} {Q : Exit → Act → World → Prop} {a : Act} {w : World}
    (hro : F.round = none) (h1 : 1 ≤ n) {gf : Nat} {lb : Array Value} (hg : a.eval g = .func (.func gf) #[] lb) (hFg : F.fn gf) (eg : ∀ args w, (callFunc gf args).run P w = .ok (.enter gf args) w)
    {encs : α → Array Value} {Y : α → World → Prop} {Kp : World → World → Prop} {S Sp : List α → Prop} {N : Nat} {w0 : World} (hseq : SeqMem F (n - 1) P gf lb encs Y Kp S Sp N w0)
    (hKt : ∀ {A B C : World}, Kp A B → Kp B C → Kp A C) (hKb : ∀ (W : World) (l : Nat) (o o' : Obj), w.heap.size ≤ l → W.heap[l]? = some o → o.isCells = false → o.isWalk = false → Kp W (W.putObj l o'))
    (hY : Own Y) (hb0 : Below w0.heap.size w0 w) (hps : ∀ x, (encs x).size = ps.size)
    (I : List α → World → Prop) (Ix : Code → List α → World → Prop) (hI : Own I) (hIx : ∀ c, Own (Ix c)) (h0 : I [] w) (a₁ : α → Act)
    (hassign : ∀ (l : Nat) (x : α) (W : World) (K : Act → World → Prop), K (a₁ x) W →
      assign.wpIn (F.inRound l) (n - 1 - 1) P (Exit.then K (fun _ _ _ => False)) { tmps := (ps.zip (encs x)).foldl (fun t (p, v) => t.setIfInBounds p v) a.tmps, defers := [] } W)
    (BP : List α → World → Exit → Act → World → Prop)
    (hbody : ∀ (l : Nat) (pre : List α) (x : α) (W : World), I pre W → Y x W → pre.length < N → body.wpIn (F.inRound l) (n - 1 - 1) P (BP (pre ++ [x]) W) (a₁ x) W)
    (hBn : ∀ xs W a' W', BP xs W .normal a' W' → KeepsOthers W W' ∧ Kp W W' ∧ I xs W')
    (hBr : ∀ xs W a' W', BP xs W .ret a' W' → KeepsOthers W W' ∧ Ix .ret xs W')
    (hBe : ∀ xs W id a' W', BP xs W (.exit id) a' W' → KeepsOthers W W' ∧ Ix (.exit id) xs W')
    (hBo : ∀ xs W e a' W', BP xs W e a' W' → e = .normal ∨ e = .ret ∨ ∃ id, e = .exit id)
    (hdone : ∀ (D : Nat) (xs : List α) (W : World), S xs → I xs W → W.heap[D]? = some (.deferred (some [])) → Q .normal { a with defers := { target := .collected D, args := #[] } :: a.defers } W)
    (hstop : ∀ (D : Nat) (c : Code) (pre : List α) (W : World), Sp pre → Ix c pre W → W.heap[D]? = some (.deferred (some [])) → c.wpIn F n P Q { a with defers := { target := .collected D, args := #[] } :: a.defers } W) :
    (Code.rangeFunc g ps assign body).wpIn F n P Q a w := by
  refine wpIn_rangeFunc fun fn hfn => ?_
  rw [hro]
  obtain ⟨rec0, hrec⟩ : ∃ r : Loop, r = { state := .ready, pending := none, fn := fn, tmps := a.tmps, params := ps, assign := assign, body := body, defers := w.heap.size } := ⟨_, rfl⟩
  have f0 : rec0.state = .ready := by rw [hrec]
  have f6 : rec0.pending = none := by rw [hrec]
  have f1 : rec0.params = ps := by rw [hrec]
  have f2 : rec0.tmps = a.tmps := by rw [hrec]
  have f3 : rec0.assign = assign := by rw [hrec]
  have f4 : rec0.body = body := by rw [hrec]
  have f5 : rec0.fn = fn := by rw [hrec]
  have f7 : { rec0 with state := .ready, pending := none } = rec0 := by rw [hrec]
  obtain ⟨W1, hW1⟩ : ∃ W1, W1 = (w.alloc (.deferred (some []))).alloc (.loop rec0) := ⟨_, rfl⟩
  have hB1 : Bk w.heap.size rec0 W1 := by rw [hW1]; exact Bk.made w rec0
  have hI1 : I [] W1 := by rw [hW1]; exact hI.alloc _ (hI.alloc _ h0)
  have hb1 : Below w0.heap.size w0 W1 := by
    rw [hW1]
    exact hb0.trans ((((Below.refl _ w).alloc (Nat.le_refl _) _).alloc (by simp) _).mono hb0.size)
  have cells : ∀ {A : World} {row : Option Nat}, (∀ q, row = some q → W1.heap.size ≤ q ∧ ∃ o : Obj, A.heap[q]? = some o ∧ o.isWalk = true) → ∀ q, row = some q → ∃ o : Obj, A.heap[q]? = some o ∧ o.isCells = false :=
    fun h q e => by obtain ⟨_, o, ho, hw⟩ := h q e; exact ⟨o, ho, Obj.not_cells_of_walk hw⟩
  have call := hseq (w.heap.size + 1) (fun pre W => I pre W ∧ Bk w.heap.size rec0 W) (fun pre W => ∃ c, Ix c pre W ∧ Bk w.heap.size { rec0 with state := .done, pending := some c } W) W1 hb1
    (fun s A B row hs hgr hr => ⟨hI s A B row hs.1 hgr (cells hr), hs.2.grown hgr fun q e => (hr q e).2⟩)
    (fun s A B row hs hgr hr => by
      obtain ⟨c, hc, hk⟩ := hs
      exact ⟨c, hIx c s A B row hc hgr (cells hr), hk.grown hgr fun q e => (hr q e).2⟩)
    (fun pre x W ⟨hi, hk⟩ hy hlen => by
      have hbusy : Kp W (W.putObj (w.heap.size + 1) (.loop { rec0 with state := .busy })) := hKb _ _ _ _ (by omega) hk.1 rfl rfl
      have hb2 := hk.put { rec0 with state := .busy }
      refine bk_round f1 f2 f3 f4 f5 hk f0 hfn (hps x) (fun K hK => hassign _ x W K hK) (hbody _ pre x _ (hI.putObj _ hi hk.1 rfl) (hY.putObj _ hy hk.1 rfl) hlen) ?_ ?_ ?_ (fun e a' W' h => hBo _ _ _ _ _ h)
      · intro a' W' h
        obtain ⟨h3, h4, h5⟩ := hBn _ _ _ _ h
        have hb3 := hb2.others h3
        rw [f7]
        exact ⟨h3, .inl ⟨rfl, ⟨hI.putObj _ h5 hb3.1 rfl, hb3.put _⟩, hKt (hKt hbusy h4) (hKb _ _ _ _ (by omega) hb3.1 rfl rfl)⟩⟩
      · intro a' W' h
        obtain ⟨h3, h5⟩ := hBr _ _ _ _ h
        have hb3 := hb2.others h3
        exact ⟨h3, .inr ⟨rfl, .ret, (hIx _).putObj _ h5 hb3.1 rfl, hb3.put _⟩⟩
      · intro id a' W' h
        obtain ⟨h3, h5⟩ := hBe _ _ _ _ _ h
        have hb3 := hb2.others h3
        exact ⟨h3, .inr ⟨rfl, .exit id, (hIx _).putObj _ h5 hb3.1 rfl, hb3.put _⟩⟩)
    ⟨hI1, hB1⟩
  refine ⟨w.heap.size + 1, [{ target := .collected w.heap.size, args := #[] }], W1, { target := .fn (.func gf) lb, args := #[.func (.yield (w.heap.size + 1)) #[] #[]] }, W1, gf,
    #[.func (.yield (w.heap.size + 1)) #[] #[]] ++ lb, W1, ?_, ?_, ?_, ?_, fun _ => h1, ?_⟩
  · rw [hW1, hrec]; exact run_enterLoop_outer _ _ _ _ _
  · simp only [resolve, hg]
    simp [go_sem]
  · intro f' hf'
    simp [Target.leads] at hf'
    subst hf'
    exact hFg
  · simp [invoke, go_sem, eg]
  · refine call.mono ?_
    rintro e W2 ⟨⟨v, rfl⟩, ⟨xs, hS, hi, hk⟩ | ⟨pre, hSp, c, hc, hk⟩⟩
    · refine ⟨_, _, run_endLoop hk.1 (by rw [f0]; simp), ?_⟩
      rw [f6]
      exact hdone _ xs _ hS (hI.putObj _ hi hk.1 rfl) (hk.put _).2
    · refine ⟨_, _, run_endLoop hk.1 (by simp), ?_⟩
      exact hstop _ c pre _ hSp ((hIx c).putObj _ hc hk.1 rfl) (hk.put _).2
end Go.Proofs.Ytmeijienfdefjaa
