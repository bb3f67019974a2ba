/- Plain facts on a disk's state. -/
import Derived.Test.YtpajedofffnhdaaDLight
namespace Go.Proofs.Ytpajedofffnhdaa
set_option linter.unusedVariables false

theorem nowTo_out (f : Nat → Nat → Nat) (j : Nat) : ∀ (l : List (Nat × (Nat → Nat))) (now : Nat → Nat → Nat), (∀ x ∈ l, x.1 ≠ j) → nowTo f now l j = now j
  | [], _, _ => rfl
  | x :: r, now, h => by
    show nowTo f (upd now x.1 (f x.1)) r j = now j
    rw [nowTo_out f j r _ fun y hy => h y (List.mem_cons_of_mem _ hy)]
    unfold upd
    rw [if_neg (fun e => h x (List.mem_cons_self ..) e.symm)]
theorem nowTo_keeps (f : Nat → Nat → Nat) (j : Nat) : ∀ (l : List (Nat × (Nat → Nat))) (now : Nat → Nat → Nat), now j = f j → nowTo f now l j = f j
  | [], _, h => h
  | x :: r, now, h => by
    refine nowTo_keeps f j r (upd now x.1 (f x.1)) ?_
    unfold upd
    by_cases e : j = x.1
    · rw [if_pos e, e]
    · rw [if_neg e, h]
theorem nowTo_in (f : Nat → Nat → Nat) (j : Nat) : ∀ (l : List (Nat × (Nat → Nat))) (now : Nat → Nat → Nat), (∃ x ∈ l, x.1 = j) → nowTo f now l j = f j
  | [], _, h => by obtain ⟨_, h, _⟩ := h; cases h
  | x :: r, now, h => by
    show nowTo f (upd now x.1 (f x.1)) r j = f j
    by_cases e : x.1 = j
    · refine nowTo_keeps f j r _ ?_
      unfold upd
      rw [if_pos e.symm, e]
    · refine nowTo_in f j r _ ?_
      obtain ⟨y, hy, hj⟩ := h
      rcases List.mem_cons.1 hy with rfl | hy
      · exact absurd hj e
      · exact ⟨y, hy, hj⟩
theorem fastTo_out (j : Nat) : ∀ (l : List (Nat × (Nat → Nat))) (f : Nat → Nat → Nat), (∀ x ∈ l, x.1 ≠ j) → fastTo f l j = f j
  | [], _, _ => rfl
  | x :: r, f, h => by
    show fastTo (upd f x.1 x.2) r j = f j
    rw [fastTo_out j r _ fun y hy => h y (List.mem_cons_of_mem _ hy)]
    unfold upd
    rw [if_neg (fun e => h x (List.mem_cons_self ..) e.symm)]
theorem fastTo_snoc (f : Nat → Nat → Nat) (l : List (Nat × (Nat → Nat))) (x : Nat × (Nat → Nat)) : fastTo f (l ++ [x]) = upd (fastTo f l) x.1 x.2 := by
  unfold fastTo
  rw [List.foldl_append]
  rfl
theorem crashTo_out (S : DS) (fa : Nat → Int) (L j : Nat) (h : ∀ x ∈ S.loose, x.1 ≠ j) : ∀ k, (crashTo S fa L k).1 j = S.fast j
  | 0 => rfl
  | k + 1 => by
    have ih := crashTo_out S fa L j h k
    simp only [crashTo]
    split
    · exact ih
    · rename_i x hx
      have hm : x.1 ≠ j := h x (List.mem_of_getElem? hx)
      have hu : ∀ G : Nat → Nat, upd (crashTo S fa L k).1 x.1 G j = (crashTo S fa L k).1 j := fun G => by
        unfold upd
        rw [if_neg (fun e => hm e.symm)]
      split
      · exact (hu _).trans ih
      · split
        · exact (hu _).trans ih
        · exact ih

section
variable (S : DS) (x : ActD)
theorem flushD_N : (flushD S).N = S.N := by unfold flushD flushS; split <;> (try split) <;> simp [strikeS_N]
theorem flushD_size : (flushD S).size = S.size := by unfold flushD flushS; split <;> (try split) <;> simp [strikeS_size]
theorem putS_N (a : Int) (n : Nat) (F : Nat → Nat) : (putS S a n F).N = S.N := by unfold putS; split <;> simp [strikeS_N, keepS]
theorem putS_size (a : Int) (n : Nat) (F : Nat → Nat) : (putS S a n F).size = S.size := by unfold putS; split <;> simp [strikeS_size, keepS]
theorem didS_N : (didS S x).N = S.N := by
  unfold didS
  split
  · exact flushD_N S
  · split
    · rfl
    · split
      · rfl
      · split
        · rfl
        · exact putS_N ..
theorem didS_size : (didS S x).size = S.size := by
  unfold didS
  split
  · exact flushD_size S
  · split
    · rfl
    · split
      · rfl
      · split
        · rfl
        · exact putS_size ..
theorem didS_len : (didS S x).loose.length ≤ S.loose.length + 1 := by
  unfold didS
  split
  · unfold flushD flushS; split
    · omega
    · split
      · rw [strikeS_loose]; omega
      · simp
  · split
    · omega
    · split
      · simp [armS]
      · split
        · simp [crashS]
        · unfold putS; split
          · omega
          · rw [strikeS_loose]; simp [keepS]
end

/-- What is read is what was written last, loose or fast. -/
def NowInv (S : DS) : Prop := ∀ j, S.now j = fastTo S.fast S.loose j
theorem NowInv.strike {S : DS} (h : NowInv S) : NowInv (strikeS S) := fun j => by rw [strikeS_now, strikeS_fast, strikeS_loose]; exact h j
theorem NowInv.keep {S : DS} (h : NowInv S) (k : Nat) (F : Nat → Nat) : NowInv (keepS S k F) := fun j => by
  show upd S.now k F j = fastTo S.fast (S.loose ++ [(k, F)]) j
  rw [fastTo_snoc]
  unfold upd
  by_cases e : j = k
  · rw [if_pos e, if_pos e]
  · rw [if_neg e, if_neg e]; exact h j
theorem NowInv.flush {S : DS} (h : NowInv S) : NowInv (flushS S) := fun j => by
  show (strikeS S).now j = fastTo (fastTo S.fast S.loose) [] j
  rw [strikeS_now]
  exact h j
theorem NowInv.crash {S : DS} (h : NowInv S) (fa : Nat → Int) (L : Nat) : NowInv (crashS S fa L) := fun j => by
  show nowTo (crashTo S fa L S.loose.length).1 S.now S.loose j = (crashTo S fa L S.loose.length).1 j
  by_cases e : ∃ x ∈ S.loose, x.1 = j
  · exact nowTo_in _ j _ _ e
  · have e2 : ∀ x ∈ S.loose, x.1 ≠ j := fun x hx q => e ⟨x, hx, q⟩
    rw [nowTo_out _ j _ _ e2, crashTo_out S fa L j e2, h j, fastTo_out j _ _ e2]
theorem NowInv.did {S : DS} (h : NowInv S) (x : ActD) : NowInv (didS S x) := by
  unfold didS
  split
  · unfold flushD; split
    · exact h
    · split
      · exact h.strike
      · exact h.flush
  · split
    · exact h
    · split
      · exact h
      · split
        · exact h.crash _ _
        · unfold putS; split
          · exact h
          · exact (h.keep _ _).strike
theorem NowInv.new (N size : Nat) : NowInv (newS N size) := fun _ => rfl

/-- Sector k holds F, fast, and nothing loose is for it. -/
structure Fast (k : Nat) (F : Nat → Nat) (S : DS) : Prop where
  l : ∀ x ∈ S.loose, x.1 ≠ k
  f : S.fast k = F
  n : S.now k = F
section
variable {k : Nat} {F : Nat → Nat} {S : DS}
theorem Fast.strike (h : Fast k F S) : Fast k F (strikeS S) := ⟨by rw [strikeS_loose]; exact h.l, by rw [strikeS_fast]; exact h.f, by rw [strikeS_now]; exact h.n⟩
theorem Fast.keep (h : Fast k F S) (j : Nat) (G : Nat → Nat) (hj : j ≠ k) : Fast k F (keepS S j G) := by
  refine ⟨fun x hx => ?_, h.f, ?_⟩
  · rcases List.mem_append.1 (show x ∈ S.loose ++ [(j, G)] from hx) with q | q
    · exact h.l x q
    · rw [List.mem_singleton.1 q]; exact hj
  · show upd S.now j G k = F
    unfold upd
    rw [if_neg (fun e => hj e.symm)]
    exact h.n
theorem Fast.flush (h : Fast k F S) : Fast k F (flushS S) := by
  refine ⟨fun x hx => ?_, ?_, ?_⟩
  · cases hx
  · show fastTo S.fast S.loose k = F
    rw [fastTo_out k _ _ h.l]; exact h.f
  · show (strikeS S).now k = F
    rw [strikeS_now]; exact h.n
theorem Fast.crash (h : Fast k F S) (fa : Nat → Int) (L : Nat) : Fast k F (crashS S fa L) := by
  refine ⟨fun x hx => ?_, ?_, ?_⟩
  · cases hx
  · exact (crashTo_out S fa L k h.l _).trans h.f
  · exact (nowTo_out _ k _ _ h.l).trans h.n
theorem Fast.did (h : Fast k F S) (x : ActD) (hx : x.at_ ≠ k) : Fast k F (didS S x) := by
  unfold didS
  split
  · unfold flushD; split
    · exact h
    · split
      · exact h.strike
      · exact h.flush
  · split
    · exact h
    · split
      · exact ⟨h.l, h.f, h.n⟩
      · split
        · exact h.crash _ _
        · unfold putS; split
          · exact h
          · rename_i q
            have r0 : reachI S x.at_ = 0 := by
              by_cases e : reachI S x.at_ = 0
              · exact e
              · exact absurd (.inl e) q
            have := reach_in r0
            exact (h.keep _ _ (by omega)).strike
theorem Fast.of_flush (h : NowInv S) (k : Nat) : Fast k (S.now k) (flushS S) := ⟨fun x hx => (by cases hx), (h k).symm, (by show (strikeS S).now k = _; rw [strikeS_now])⟩
end

/-- Acts, one behind the other; all but those at one place. -/
def runS (S0 : DS) (X : Nat → ActD) : Nat → DS
  | 0 => S0
  | k + 1 => didS (runS S0 X k) (X k)
def runF (S0 : DS) (X : Nat → ActD) (at_ : Nat) : Nat → DS
  | 0 => S0
  | k + 1 => if (X k).at_ = at_ then runF S0 X at_ k else didS (runF S0 X at_ k) (X k)
theorem runS_N (S0 : DS) (X : Nat → ActD) : ∀ k, (runS S0 X k).N = S0.N ∧ (runS S0 X k).size = S0.size ∧ (runS S0 X k).loose.length ≤ S0.loose.length + k
  | 0 => ⟨rfl, rfl, Nat.le_refl _⟩
  | k + 1 => by
    obtain ⟨h1, h2, h3⟩ := runS_N S0 X k
    have := didS_len (runS S0 X k) (X k)
    exact ⟨(didS_N _ _).trans h1, (didS_size _ _).trans h2, by show (didS _ _).loose.length ≤ _; omega⟩
theorem runF_N (S0 : DS) (X : Nat → ActD) (a : Nat) : ∀ k, (runF S0 X a k).N = S0.N ∧ (runF S0 X a k).size = S0.size ∧ (runF S0 X a k).loose.length ≤ S0.loose.length + k
  | 0 => ⟨rfl, rfl, Nat.le_refl _⟩
  | k + 1 => by
    obtain ⟨h1, h2, h3⟩ := runF_N S0 X a k
    have := didS_len (runF S0 X a k) (X k)
    unfold runF
    split
    · exact ⟨h1, h2, by omega⟩
    · exact ⟨(didS_N _ _).trans h1, (didS_size _ _).trans h2, by omega⟩
theorem runS_inv {S0 : DS} (h : NowInv S0) (X : Nat → ActD) : ∀ k, NowInv (runS S0 X k)
  | 0 => h
  | k + 1 => (runS_inv h X k).did _
theorem runF_fast {S0 : DS} {a : Nat} {F : Nat → Nat} (h : Fast a F S0) (X : Nat → ActD) : ∀ k, Fast a F (runF S0 X a k)
  | 0 => h
  | k + 1 => by
    have ih := runF_fast h X k
    unfold runF
    split
    · exact ih
    · rename_i q
      exact ih.did _ q
end Go.Proofs.Ytpajedofffnhdaa
