/- The document's Compare, way by way. -/
import Derived.Test.YtpmhefdalhohdaaDoorORefCmpA
import Derived.Test.YtpmhefdalhohdaaDoorORefCmpB
import Derived.Test.YtpmhefdalhohdaaDoorORefCmpC
namespace Go.Proofs.YtpmhefdalhohdaaDoor
open Go.RowKit
set_option linter.unusedVariables false

def RefCmpC (t : VT) : Prop := ∀ (u : VT) (ca cb : Array Value) (w : World), InV w t ca → InV w u cb → Fit t → Fit u → OkV t → OkV u →
  Calls Tryd.prog 16 #[.agg ca, .agg cb] w fun e w' => e = .returned (.int .i64 (cmpV t u)) ∧ Below w.heap.size w w'
theorem refCmp_mk (k : Int) (b : Bool) (n : Int) (s : ByteArray) (m : Nat) (f : Nat → VT) (q : Nat) (g : Nat → ByteArray) (ih : ∀ i, RefCmpC (f i)) : RefCmpC (.mk k b n s m f q g) := by
  intro u ca cb w ia ib f1 f2 o1 o2
  by_cases hr : rankV (.mk k b n s m f q g) = rankV u
  · have k1 := rank_kind f1
    have k2 := rank_kind f2
    have hn : ¬ (rankV (.mk k b n s m f q g) ≠ rankV u) := fun e => e hr
    have k1 : (k = 0 ∧ rankV (.mk k b n s m f q g) = 1) ∨ (k = 1 ∧ (rankV (.mk k b n s m f q g) = 2 ∨ rankV (.mk k b n s m f q g) = 3)) ∨ (2 ≤ k ∧ k ≤ 5 ∧ rankV (.mk k b n s m f q g) = k + 2) := k1
    have hku : u.k = k := by omega
    have hk0 : 0 ≤ k ∧ k ≤ 5 := by omega
    rcases u with _ | ⟨k', b', n', s', m', f', q', g'⟩
    · exact ib.elim
    have hku : k' = k := hku
    subst hku
    have ia' := ia
    have ib' := ib
    obtain ⟨A, c, B, d, rfl, a1, a2, a3, a4, a5, a6, a7, a8, a9⟩ := ia'
    obtain ⟨A', c', B', d', rfl, b1, b2, b3, b4, b5, b6, b7, b8, b9⟩ := ib'
    rcases (show k' = 0 ∨ k' = 1 ∨ k' = 2 ∨ k' = 3 ∨ k' = 4 ∨ k' = 5 by omega) with rfl | rfl | rfl | rfl | rfl | rfl
    · rw [cmpV_low hr (by show (0 : Int) < 2; omega) (by show (0 : Int) ≤ 0; omega)]
      exact refCmp_low0 b n s m f q g A c B d b' n' s' m' f' q' g' A' c' B' d' w ia ib _ hr rfl
    · rw [cmpV_low hr (by show (1 : Int) < 2; omega) (by show (0 : Int) ≤ 1; omega)]
      exact refCmp_low1 b n s m f q g A c B d b' n' s' m' f' q' g' A' c' B' d' w ia ib _ hr rfl
    · rw [cmpV, if_neg hn, if_pos rfl]
      exact refCmp_num b n s m f q g A c B d b' n' s' m' f' q' g' A' c' B' d' w ia ib _ hr rfl
    · rw [cmpV, if_neg hn, if_neg (by decide), if_pos rfl]
      exact refCmp_text b n s m f q g A c B d b' n' s' m' f' q' g' A' c' B' d' w ia ib _ hr rfl
    · rw [cmpV, if_neg hn, if_neg (by decide), if_neg (by decide), if_pos (.inl rfl)]
      obtain ⟨p1, p2, p3, p4⟩ := o1
      obtain ⟨r1, r2, r3, r4⟩ := o2
      refine (refCmp_list b n s m f q g A c B d b' n' s' m' f' q' g' A' c' B' d' w ia ib _ hr rfl a4 a5 b4 b5 a8 b8 (fun i h1 h2 x y W ix iy => ih i _ x y W ix iy (f1.item (.inl rfl) h1).1 (f2.item (.inl rfl) h2).1 (p4 (.inl rfl) i h1).2 (r4 (.inl rfl) i h2).2)).mono fun e w' ⟨he, hw⟩ => ⟨he.trans ?_, hw⟩
      unfold rowV
      simp
      rfl
    · rw [cmpV, if_neg hn, if_neg (by decide), if_neg (by decide), if_pos (.inr rfl)]
      obtain ⟨p1, p2, p3, p4⟩ := o1
      obtain ⟨r1, r2, r3, r4⟩ := o2
      obtain rfl := p3 rfl
      obtain rfl := r3 rfl
      refine (refCmp_object b n s _ f g A c B d b' n' s' _ f' g' A' c' B' d' w ia ib _ hr rfl a4 a5 b4 b5 a8 b8 a6 a7 b6 b7 a9 b9 (fun i h1 h2 x y W ix iy => ih i _ x y W ix iy (f1.item (.inr rfl) h1).1 (f2.item (.inr rfl) h2).1 (p4 (.inr rfl) i h1).2 (r4 (.inr rfl) i h2).2)).mono fun e w' ⟨he, hw⟩ => ⟨he.trans ?_, hw⟩
      unfold rowV memC
      simp
      rfl
  · rw [cmpV_ne f1 hr]
    obtain ⟨A, c, B, d, rfl, _⟩ := id ia
    rcases u with _ | ⟨k', b', n', s', m', f', q', g'⟩
    · exact ib.elim
    obtain ⟨A', c', B', d', rfl, _⟩ := id ib
    exact refCmp_ne _ _ _ _ _ _ _ _ _ _ _ _ _ _ w ia ib f1.kind f2.kind _ _ rfl rfl hr
theorem refCmp_any : ∀ t : VT, RefCmpC t
  | .no => fun _ _ _ _ h => h.elim
  | .mk k b n s m f q g => refCmp_mk k b n s m f q g fun i => refCmp_any (f i)
end Go.Proofs.YtpmhefdalhohdaaDoor
