/- A region that draws its order, within a round of a loop over a function: by the laws outside a round. No word of a package. -/
import Derived.Test.YtoghdllppecblaaDoorProg
import Derived.OrdersIn
import Derived.OrdersHeld
import Derived.RangeFuncCalls
import Derived.Deep.RegionHeldLaw
namespace Go.Proofs.YtoghdllppecblaaDoor
open Go.RowKit
set_option linter.unusedVariables false

/-- Nothing but the normal end. -/
def onlyN (Q : Act → World → Prop) : Exit → Act → World → Prop
  | .normal, a, w => Q a w
  | _, _, _ => False
theorem onlyN_lets {Q : Act → World → Prop} (h : LetsOut (onlyN Q)) : False := by obtain ⟨_, _, h⟩ := h; exact h
def noDefer (o : Oper) : Bool := match o.op with | .defer _ => false | _ => true
theorem semAt_noDefer {o : Oper} (h : noDefer o = true) (ro : Option Nat) (ρ : Operand → Value) : o.semAt ro ρ = execOp ρ o := by
  unfold Oper.semAt
  split
  · rename_i hc
    unfold noDefer at h
    rw [hc] at h
    cases h
  · rfl
theorem opIn_of {n l : Nat} {P : Program} {o : Oper} {a : Act} {w : World} {K : Act → World → Prop} {Q : Act → World → Prop} {Q' : Exit → Act → World → Prop} (hd : noDefer o = true)
    (h : o.wp P a w K (onlyN Q)) : o.wpIn (Fence.wide.inRound l) n P a w K Q' := by
  unfold Oper.wp at h
  refine ⟨fun f _ => trivial, ?_⟩
  rw [semAt_noDefer hd]
  generalize (execOp a.eval o).run P w = r at h
  cases r with
  | ok x w' =>
    cases x <;> simp only [Oper.upon, Oper.uponIn] at h ⊢ <;>
      first
        | exact h
        | exact ⟨fun q => (by cases q), CallsIn.inRound l (callsIn_wide.2 (h.mono fun e w'' he => (match e, he with | .returned v, he => he | .panicked c, he => he.elim | .outgrown, he => (onlyN_lets he).elim)))⟩
        | exact ⟨fun q => (by cases q), fun c cs _ => (match h c cs with | ⟨v, w', r, s⟩ => ⟨v, w', r, stepsIn_wide.2 s⟩)⟩
        | exact h.elim
  | halt x w' =>
    cases x <;> simp only [Oper.upon, Oper.uponIn] at h ⊢ <;> exact h.elim
theorem anyIn_of {n l : Nat} {P : Program} {md : Region.Mode} {ops : Array Oper} {Q : Act → World → Prop} {Q' : Exit → Act → World → Prop} (hd : ∀ (i : Nat) (o : Oper), ops[i]? = some o → noDefer o = true) (hQ : ∀ a w, Q a w → Q' .normal a w) :
    ∀ (fuel : Nat) (listed : Array Bool) (a : Act) (w : World), wpAny P md ops (onlyN Q) fuel listed a w → wpAnyIn (Fence.wide.inRound l) n P md ops Q' fuel listed a w
  | 0, _, _, _, h => ⟨h.1, hQ _ _ h.2⟩
  | fuel + 1, listed, a, w, h => ⟨fun h0 => hQ _ _ (h.1 h0), fun i hi => by
      have h1 := h.2 i hi
      unfold wpOp at h1
      unfold wpOpIn
      cases ho : ops[i]? with
      | none => simp only [ho] at h1 ⊢; exact anyIn_of hd hQ fuel _ a w h1
      | some o =>
        simp only [ho] at h1 ⊢
        by_cases hw : Region.wanted o (yielded ops a.tmps) = true
        · simp only [hw, if_true] at h1 ⊢
          rcases h1 with h1 | ⟨_, h1⟩
          · exact Oper.wpIn_mono (fun a w => anyIn_of hd hQ fuel _ a w) (opIn_of (hd i o ho) h1)
          · exact (onlyN_lets h1).elim
        · simp only [hw] at h1 ⊢
          exact ⟨fun f _ => trivial, anyIn_of hd hQ fuel _ _ w h1⟩⟩
theorem region_round {n l id : Nat} {P : Program} {ops : Array Oper} {S : World → Prop} {Q' : Exit → Act → World → Prop} {a : Act} {w : World} (hm : P.follows .mixedOrders = true) (hd : ops.all noDefer = true)
    (h : wpAnyH P .any ops (onlyN fun a w => Q' .normal a w) S ops.size (Array.replicate ops.size false) a w.drew) : (Code.region id ops true).wpIn (Fence.wide.inRound l) n P Q' a w :=
  wpIn_region_any hm (anyIn_of (fun i o ho => (Array.all_eq_true_iff_forall_mem.1 hd) o (Array.mem_of_getElem? ho)) (fun _ _ h => h) _ _ _ _ (wpAny_of_held _ _ _ _ h))
end Go.Proofs.YtoghdllppecblaaDoor
