/- As MSeqMem, where the loop's variables are laid in new blocks at each round (the body takes their address). No word of any package. -/
import Derived.Test.YtmeijienfdefjaaMSeqMem
import Derived.RangeFuncFrom
namespace Go.Proofs.Ytmeijienfdefjaa
open Go Go.RowKit
set_option linter.unusedVariables false
variable {P : Program} {F : Fence} {D m : Nat} {r r' : Loop} {W W' : World}
/-- One round of a loop that is ready; its variables may lie in new blocks. -/
theorem bk_roundA {ps : Array Tmp} {tmps : Array Value} {assign body : Code} {fn : FuncId} (e1 : r.params = ps) (e2 : r.tmps = tmps) (e3 : r.assign = assign) (e4 : r.body = body) (e5 : r.fn = fn) (hb : Bk D r W) (hs : r.state = .ready) (hfn : F.fn fn) {args : Array Value} (hsz : args.size = ps.size) {Aa : Act → World → Prop} {Q : World → Exit → Act → World → Prop} {R : Ending → World → Prop}
    (hk : ∀ a' W1, Aa a' W1 → KeepsOthers W W1)
    (hassign : ∀ K : Act → World → Prop, (∀ a' W1, Aa a' W1 → K a' W1) → assign.wpIn (F.inRound (D + 1)) m P (Exit.then K (fun _ _ _ => False)) { tmps := (ps.zip args).foldl (fun t (p, v) => t.setIfInBounds p v) tmps, defers := [] } W)
    (hbody : ∀ a' W1, Aa a' W1 → body.wpIn (F.inRound (D + 1)) m P (Q W1) a' (W1.putObj (D + 1) (.loop { r with state := .busy })))
    (hnorm : ∀ a₁ W1 a' W', Aa a₁ W1 → Q W1 .normal a' W' → KeepsOthers (W1.putObj (D + 1) (.loop { r with state := .busy })) W' ∧ R (.returned (.bool true)) (W'.putObj (D + 1) (.loop { r with state := .ready, pending := none })))
    (hret : ∀ a₁ W1 a' W', Aa a₁ W1 → Q W1 .ret a' W' → KeepsOthers (W1.putObj (D + 1) (.loop { r with state := .busy })) W' ∧ R (.returned (.bool false)) (W'.putObj (D + 1) (.loop { r with state := .done, pending := some .ret })))
    (hexit : ∀ id a₁ W1 a' W', Aa a₁ W1 → Q W1 (.exit id) a' W' → KeepsOthers (W1.putObj (D + 1) (.loop { r with state := .busy })) W' ∧ R (.returned (.bool false)) (W'.putObj (D + 1) (.loop { r with state := .done, pending := some (.exit id) })))
    (hno : ∀ W1 e a' W', Q W1 e a' W' → e = .normal ∨ e = .ret ∨ ∃ id, e = .exit id) : YieldAt F m P (D + 1) args W R := by
  subst e1 e2 e3 e4 e5
  refine ⟨r.fn, _, r.assign, r.body, run_yield hb.1 hsz, roundIn_of_wpIn hfn (hassign _ fun a₁ W1 hA => ?_)⟩
  have hb1 := hb.others (hk a₁ W1 hA)
  refine ⟨_, run_beginRound hb1.1 hs, wpIn_mono (hbody a₁ W1 hA) ?_⟩
  have hb2 := hb1.put { r with state := .busy }
  intro e a' W' hq
  rcases hno W1 e a' W' hq with rfl | rfl | ⟨id, rfl⟩
  · obtain ⟨hk, hR⟩ := hnorm a₁ W1 a' W' hA hq
    exact ⟨_, _, run_endRound none (hb2.others hk).1, hR⟩
  · obtain ⟨hk, hR⟩ := hret a₁ W1 a' W' hA hq
    exact ⟨_, _, run_endRound (some .ret) (hb2.others hk).1, hR⟩
  · obtain ⟨hk, hR⟩ := hexit id a₁ W1 a' W' hA hq
    exact ⟨_, _, run_endRound (some (.exit id)) (hb2.others hk).1, hR⟩
set_option maxHeartbeats 300000 in
/-- The loop over an iterator that owes Y. How a round may be left: it goes on, returns, or leaves a block. -/
theorem SeqMem.loopA {α : Type} {n : Nat} {g : Operand} {ps : Array Tmp} {assign body : Code} {Q : Exit → Act → World → Prop} {a : Act} {w : World}
    (hro : F.round = none) (h1 : 1 ≤ n) {gf : Nat} {lb : Array Value} (hg : a.eval g = .func (.func gf) #[] lb) (hFg : F.fn gf) (eg : ∀ args w, (callFunc gf args).run P w = .ok (.enter gf args) w)
    {encs : α → Array Value} {Y : α → World → Prop} {Kp : World → World → Prop} {S Sp : List α → Prop} {N : Nat} {w0 : World} (hseq : SeqMem F (n - 1) P gf lb encs Y Kp S Sp N w0)
    (hKt : ∀ {A B C : World}, Kp A B → Kp B C → Kp A C) (hKb : ∀ (W : World) (l : Nat) (o o' : Obj), w.heap.size ≤ l → W.heap[l]? = some o → o.isCells = false → o.isWalk = false → Kp W (W.putObj l o'))
    (hb0 : Below w0.heap.size w0 w) (hps : ∀ x, (encs x).size = ps.size)
    (I : List α → World → Prop) (Ix : Code → List α → World → Prop) (hI : OwnFrom w.heap.size I) (hIx : ∀ c, OwnFrom w.heap.size (Ix c)) (h0 : I [] w)
    (A : List α → α → Act → World → Prop) (hAp : ∀ pre x a' W1 l o o', w.heap.size ≤ l → A pre x a' W1 → W1.heap[l]? = some o → o.isCells = false → A pre x a' (W1.putObj l o'))
    (hassign : ∀ (l : Nat) (pre : List α) (x : α) (W : World) (K : Act → World → Prop), I pre W → Y x W → pre.length < N → (∀ a' W1, A pre x a' W1 → KeepsOthers W W1 → Kp W W1 → K a' W1) →
      assign.wpIn (F.inRound l) (n - 1 - 1) P (Exit.then K (fun _ _ _ => False)) { tmps := (ps.zip (encs x)).foldl (fun t (p, v) => t.setIfInBounds p v) a.tmps, defers := [] } W)
    (BP : List α → World → Exit → Act → World → Prop)
    (hbody : ∀ (l : Nat) (pre : List α) (x : α) (a' : Act) (W : World), A pre x a' W → pre.length < N → body.wpIn (F.inRound l) (n - 1 - 1) P (BP (pre ++ [x]) W) a' W)
    (hBn : ∀ xs W a' W', BP xs W .normal a' W' → KeepsOthers W W' ∧ Kp W W' ∧ I xs W')
    (hBr : ∀ xs W a' W', BP xs W .ret a' W' → KeepsOthers W W' ∧ Ix .ret xs W')
    (hBe : ∀ xs W id a' W', BP xs W (.exit id) a' W' → KeepsOthers W W' ∧ Ix (.exit id) xs W')
    (hBo : ∀ xs W e a' W', BP xs W e a' W' → e = .normal ∨ e = .ret ∨ ∃ id, e = .exit id)
    (hdone : ∀ (D : Nat) (xs : List α) (W : World), w.heap.size ≤ D → S xs → I xs W → W.heap[D]? = some (.deferred (some [])) → Q .normal { a with defers := { target := .collected D, args := #[] } :: a.defers } W)
    (hstop : ∀ (D : Nat) (c : Code) (pre : List α) (W : World), w.heap.size ≤ D → Sp pre → Ix c pre W → W.heap[D]? = some (.deferred (some [])) → c.wpIn F n P Q { a with defers := { target := .collected D, args := #[] } :: a.defers } W) :
    (Code.rangeFunc g ps assign body).wpIn F n P Q a w := by
  refine wpIn_rangeFunc fun fn hfn => ?_
  rw [hro]
  obtain ⟨rec0, hrec⟩ : ∃ r : Loop, r = { state := .ready, pending := none, fn := fn, tmps := a.tmps, params := ps, assign := assign, body := body, defers := w.heap.size } := ⟨_, rfl⟩
  have f0 : rec0.state = .ready := by rw [hrec]
  have f6 : rec0.pending = none := by rw [hrec]
  have f1 : rec0.params = ps := by rw [hrec]
  have f2 : rec0.tmps = a.tmps := by rw [hrec]
  have f3 : rec0.assign = assign := by rw [hrec]
  have f4 : rec0.body = body := by rw [hrec]
  have f5 : rec0.fn = fn := by rw [hrec]
  have f7 : { rec0 with state := .ready, pending := none } = rec0 := by rw [hrec]
  obtain ⟨W1, hW1⟩ : ∃ W1, W1 = (w.alloc (.deferred (some []))).alloc (.loop rec0) := ⟨_, rfl⟩
  have hB1 : Bk w.heap.size rec0 W1 := by rw [hW1]; exact Bk.made w rec0
  have hI1 : I [] W1 := by rw [hW1]; exact hI.alloc _ (hI.alloc _ h0)
  have hs1 : w.heap.size ≤ W1.heap.size := by rw [hW1]; simp; omega
  have hb1 : Below w0.heap.size w0 W1 := by
    rw [hW1]
    exact hb0.trans ((((Below.refl _ w).alloc (Nat.le_refl _) _).alloc (by simp) _).mono hb0.size)
  have cells : ∀ {A : World} {row : Option Nat}, (∀ q, row = some q → W1.heap.size ≤ q ∧ ∃ o : Obj, A.heap[q]? = some o ∧ o.isWalk = true) → ∀ q, row = some q → w.heap.size ≤ q ∧ ∃ o : Obj, A.heap[q]? = some o ∧ o.isCells = false :=
    fun h q e => by obtain ⟨h1, o, ho, hw⟩ := h q e; exact ⟨by omega, o, ho, Obj.not_cells_of_walk hw⟩
  have call := hseq (w.heap.size + 1) (fun pre W => I pre W ∧ Bk w.heap.size rec0 W) (fun pre W => ∃ c, Ix c pre W ∧ Bk w.heap.size { rec0 with state := .done, pending := some c } W) W1 hb1
    (fun s A B row hs hgr hr => ⟨hI s A B row hs.1 hgr (cells hr), hs.2.grown hgr fun q e => (hr q e).2⟩)
    (fun s A B row hs hgr hr => by
      obtain ⟨c, hc, hk⟩ := hs
      exact ⟨c, hIx c s A B row hc hgr (cells hr), hk.grown hgr fun q e => (hr q e).2⟩)
    (fun pre x W ⟨hi, hk⟩ hy hlen => by
      refine bk_roundA (Aa := fun a' W1 => A pre x a' W1 ∧ KeepsOthers W W1 ∧ Kp W W1) (Q := fun W1 => BP (pre ++ [x]) (W1.putObj (w.heap.size + 1) (.loop { rec0 with state := .busy }))) f1 f2 f3 f4 f5 hk f0 hfn (hps x) (fun a' W1 h => h.2.1)
        (fun K hK => hassign _ pre x W K hi hy hlen fun a' W1 q1 q2 q3 => hK a' W1 ⟨q1, q2, q3⟩) (fun a' W1 ⟨q1, q2, q3⟩ => hbody _ pre x a' _ (hAp _ _ _ _ _ _ _ (Nat.le_succ _) q1 (hk.others q2).1 rfl) hlen) ?_ ?_ ?_ (fun W1 e a' W' h => hBo _ _ _ _ _ h)
      · rintro a₁ W2 a' W' ⟨q1, q2, q3⟩ h
        obtain ⟨h3, h4, h5⟩ := hBn _ _ _ _ h
        have hk2 := hk.others q2
        have hb2 := hk2.put { rec0 with state := .busy }
        have hb3 := hb2.others h3
        rw [f7]
        have hbusy : Kp W2 (W2.putObj (w.heap.size + 1) (.loop { rec0 with state := .busy })) := hKb _ _ _ _ (by omega) hk2.1 rfl rfl
        exact ⟨h3, .inl ⟨rfl, ⟨hI.putObj _ h5 (Nat.le_succ _) hb3.1 rfl, hb3.put _⟩, hKt (hKt (hKt q3 hbusy) h4) (hKb _ _ _ _ (by omega) hb3.1 rfl rfl)⟩⟩
      · rintro a₁ W2 a' W' ⟨q1, q2, q3⟩ h
        obtain ⟨h3, h5⟩ := hBr _ _ _ _ h
        have hb3 := ((hk.others q2).put { rec0 with state := .busy }).others h3
        exact ⟨h3, .inr ⟨rfl, .ret, (hIx _).putObj _ h5 (Nat.le_succ _) hb3.1 rfl, hb3.put _⟩⟩
      · rintro id a₁ W2 a' W' ⟨q1, q2, q3⟩ h
        obtain ⟨h3, h5⟩ := hBe _ _ _ _ _ h
        have hb3 := ((hk.others q2).put { rec0 with state := .busy }).others h3
        exact ⟨h3, .inr ⟨rfl, .exit id, (hIx _).putObj _ h5 (Nat.le_succ _) hb3.1 rfl, hb3.put _⟩⟩)
    ⟨hI1, hB1⟩
  refine ⟨w.heap.size + 1, [{ target := .collected w.heap.size, args := #[] }], W1, { target := .fn (.func gf) lb, args := #[.func (.yield (w.heap.size + 1)) #[] #[]] }, W1, gf,
    #[.func (.yield (w.heap.size + 1)) #[] #[]] ++ lb, W1, ?_, ?_, ?_, ?_, fun _ => h1, ?_⟩
  · rw [hW1, hrec]; exact run_enterLoop_outer _ _ _ _ _
  · simp only [resolve, hg]
    simp [go_sem]
  · intro f' hf'
    simp [Target.leads] at hf'
    subst hf'
    exact hFg
  · simp [invoke, go_sem, eg]
  · refine call.mono ?_
    rintro e W2 ⟨⟨v, rfl⟩, ⟨xs, hS, hi, hk⟩ | ⟨pre, hSp, c, hc, hk⟩⟩
    · refine ⟨_, _, run_endLoop hk.1 (by rw [f0]; simp), ?_⟩
      rw [f6]
      exact hdone _ xs _ (Nat.le_refl _) hS (hI.putObj _ hi (Nat.le_succ _) hk.1 rfl) (hk.put _).2
    · refine ⟨_, _, run_endLoop hk.1 (by simp), ?_⟩
      exact hstop _ c pre _ (Nat.le_refl _) hSp ((hIx c).putObj _ hc (Nat.le_succ _) hk.1 rfl) (hk.put _).2
end Go.Proofs.Ytmeijienfdefjaa
