/-
  FrameTorn returns true for every size, every choice of the ground and every three pieces and leaves its arguments as they were: first pieces of two sectors upon a third one, or upon zero bytes, all with unlike marks, are read as a sector just where they are one of them.
  Conditions: none.
-/
import Derived.Test.YtmkpknjhbkbafaaRows
import Derived.Test.YtmkpknjhbkbafaaFTornLaw
import Derived.WalkKit
import Derived.ProofKit
import Derived.OpenShut
import Derived.ShutString
import Derived.ChangeOld
import Derived.Below
import Derived.Lib.SmallJoins
import Derived.Deep.Strs
namespace Go.Proofs.Ytmkpknjhbkbafaa.frameTorn
open Go.Joins Go.Deep Go.ChangeShapes Go.WideShapes Go.ChangeAt Go.RowKit
open Go.ChangeMaps (open_string shut_string)
set_option linter.unusedVariables false

theorem own : ownKnob Try.prog.godebug = none := by kernel_rfl
theorem laidOut : laidOutB Try.prog = true := by kernel_rfl

def IsRow (k : IntKind) (w : World) (a : Option Addr) (len cap : Nat) (zs : List Int) : Prop :=
  (a = none ∧ len = 0 ∧ cap = 0 ∧ zs = []) ∨
  ∃ x, a = some x ∧ len ≤ cap ∧ cap ≤ maxLen ∧ zs.length = cap ∧ (∀ i, i < zs.length → w.cell? (x.add i) = some (.int k (zs.getD i 0))) ∧ ∀ n ∈ zs, (Lit.int k n).wf = true

theorem okWide_array {P : Program} {w : World} {r : Reach} {base : Nat} {t e : TypeId} {n : Nat} {v : Value} (ht : P.underlying t = some (.array n e)) (h : Value.okWide P w r base t v) : ∃ cs, v = .agg cs ∧ cs.size = P.cellsOf t := by
  simp only [Value.okWide, ht] at h
  obtain ⟨cs, h1, h2, _⟩ := h
  exact ⟨cs, h1, h2⟩

theorem array9 {cs : Array Value} (h : cs.size = 9) : ∃ c0 c1 c2 c3 c4 c5 c6 c7 c8, cs = #[c0, c1, c2, c3, c4, c5, c6, c7, c8] := by
  obtain ⟨l⟩ := cs
  match l, h with
  | [c0, c1, c2, c3, c4, c5, c6, c7, c8], _ => exact ⟨c0, c1, c2, c3, c4, c5, c6, c7, c8, rfl⟩

theorem piece_of {H : Type} {enc : TypeId × Value → H} {w : World} {base : Nat} {held : Bool} {fuel : Nat} {a b c : Value} {y : DataW H × List MemPlace}
    (h : DataW.trod enc Try.prog w base (fun _ => true) held fuel 40 [a, b, c] = some y) :
    ∃ mk A n cc ct F, a = .int .i64 mk ∧ b = .slice A n cc ∧ c = .int .i64 ct ∧ mk ≤ 9223372036854775807 ∧ Bytes w A n F := by
  obtain ⟨y0, y1, y2, m, _, _, t0, t1, t2⟩ := trod_struct3 Try.underlying40 h
  have e3 : Try.prog.cellsOf 3 = 1 := by kernel_rfl
  have e22 : Try.prog.cellsOf 22 = 1 := by kernel_rfl
  simp only [e3, e22, List.drop_zero, List.drop_succ_cons, List.take_succ_cons, List.take_zero] at t0 t1 t2
  obtain ⟨mk, e0, _, w0⟩ := DataW.trod_int Try.underlying3 t0
  obtain ⟨ct, e2, _, _⟩ := DataW.trod_int Try.underlying3 t2
  simp only [List.cons.injEq, and_true] at e0 e2
  have hr := bounds_i64 w0
  rcases open_ints Try.underlying22 Try.underlying5 (by kernel_rfl) t1 with ⟨hcs, _⟩ | ⟨x, l, k, zs, hcs, _, hl, hm, hz, _, hcell, hwz⟩
  · simp only [List.cons.injEq, and_true] at hcs
    obtain ⟨F, hb, _⟩ := bytes_of_row (w := w) (a := none) (len := 0) (cap := 0) (zs := []) (.inl ⟨rfl, rfl, rfl, rfl⟩)
    exact ⟨mk, none, 0, 0, ct, F, e0, hcs, e2, hr.2, hb⟩
  · simp only [List.cons.injEq, and_true] at hcs
    obtain ⟨F, hb, _⟩ := bytes_of_row (w := w) (a := some x) (len := l) (cap := k) (zs := zs) (.inr ⟨x, rfl, hl, hm, by simpa using hz, hcell, hwz⟩)
    exact ⟨mk, some x, l, k, ct, F, e0, hcs, e2, hr.2, hb⟩

set_option maxRecDepth 100000 in
set_option maxHeartbeats 1000000 in
theorem lifted (os : Os) (started : os.Started) (H : Type) (enc : TypeId × Value → H) :
    ReturnsInHanded {} Try.checked os 6 .any (Rows.frameTornSpec.pre6 enc Try.prog Try.f6 Rows.frameTornRow.domain false) (Rows.frameTornSpec.post enc Try.prog Try.f6 false true false false) := by
  refine returnsInHanded_of_change (C := Try.checked) own started (by kernel_rfl) Try.func6
    (ChangeSpec.witness6 (enc := enc) (C := Try.checked) false ⟨#[], #[.int .i64 0, .bool false, .agg #[.int .i64 0, .slice none 0 0, .int .i64 0, .int .i64 0, .slice none 0 0, .int .i64 0, .int .i64 0, .slice none 0 0, .int .i64 0]], []⟩ 8 (by kernel_rfl) (by kernel_rfl) (by kernel_rfl) (by kernel_rfl)) ?_
  intro W base args ds gs before hval0 hW hcnd _
  have hval : ∀ (j : Nat) t v, Try.f6.params[j]? = some t → args[j]? = some v → Value.okWide Try.prog W .any base t v := hval0
  have hW' := hW
  obtain ⟨p, q, hA0, hV, rfl, hfz, hnd⟩ := hW
  have hA : DataW.TrodAll enc Try.prog W 0 (fun _ => true) true Try.f6.params.toList args.toList ds p := hA0
  rw [Try.params6] at hA hval
  obtain ⟨v0, vs0, d0, ds0, p0, q0, hargs, rfl, rfl, h0, r0⟩ := trodAll_cons hA
  obtain ⟨v1, vs1, d1, ds1, p1, q1, rfl, rfl, rfl, h1, r1⟩ := trodAll_cons r0
  obtain ⟨v2, vs2, d2, ds2, p2, q2, rfl, rfl, rfl, h2, r2⟩ := trodAll_cons r1
  obtain ⟨rfl, rfl, rfl⟩ := trodAll_nil r2
  obtain rfl : args = #[v0, v1, v2] := by cases args; simp_all
  obtain ⟨rfl, rfl⟩ := trodVars_none hV
  obtain ⟨a0, rfl, rfl, rfl, w0⟩ := open_int Try.underlying3 (hval 0 3 v0 rfl rfl) h0
  obtain ⟨a1, rfl, rfl, rfl⟩ := open_bool Try.underlying4 (hval 1 4 v1 rfl rfl) h1
  have k2 := h2
  have lt2 : ∀ x ∈ p2, x.block < W.heap.size := by obtain ⟨m, hm⟩ := k2; exact DataW.trod_lt m _ _ _ hm
  obtain ⟨cs, rfl, hcs⟩ := okWide_array Try.underlying41 (hval 2 41 v2 rfl rfl)
  have e41 : Try.prog.cellsOf 41 = 9 := by kernel_rfl
  have e40 : Try.prog.cellsOf 40 = 3 := by kernel_rfl
  rw [e41] at hcs
  obtain ⟨c0, c1, c2, c3, c4, c5, c6, c7, c8, rfl⟩ := array9 hcs
  · obtain ⟨fuel, hf⟩ := h2
    obtain ⟨xs, m, _, _, _, hxl, hx⟩ := DataW.trod_array Try.underlying41 hf
    rw [e40] at hx
    match xs, hxl with
    | [x0, x1, x2], _ =>
      have t0 := hx 0 (by omega)
      have t1 := hx 1 (by omega)
      have t2 := hx 2 (by omega)
      obtain ⟨m0, A0, n0, cc0, ct0, F0, rfl, rfl, rfl, b0, y0⟩ := piece_of t0
      obtain ⟨m1, A1, n1, cc1, ct1, F1, rfl, rfl, rfl, b1, y1⟩ := piece_of t1
      obtain ⟨m2, A2, n2, cc2, ct2, F2, rfl, rfl, rfl, b2, y2⟩ := piece_of t2
      clear hA0 hval0
      have hw := frameTorn_walk a0 a1 (fun k => match k with | 0 => m0 | 1 => m1 | _ => m2) (fun k => match k with | 0 => A0 | 1 => A1 | _ => A2) (fun k => match k with | 0 => n0 | 1 => n1 | _ => n2)
        (fun k => match k with | 0 => cc0 | 1 => cc1 | _ => cc2) (fun k => match k with | 0 => ct0 | 1 => ct1 | _ => ct2) (fun k => match k with | 0 => F0 | 1 => F1 | _ => F2) W (fun r hr => by
          match r, hr with
          | 0, _ => exact b0
          | 1, _ => exact b1
          | 2, _ => exact b2) (fun r hr => by
          match r, hr with
          | 0, _ => exact y0
          | 1, _ => exact y1
          | 2, _ => exact y2)
      unfold boxCells at hw
      dsimp only at hw
      refine hw.mono fun e W' ⟨he, bel⟩ => ?_
      · subst he
        exact ⟨_, rfl, _, _, _, [], _, [], hW', trodAll_mk1 (shut_bool Try.underlying4 _), (trodAll_cons_mk (shut_int Try.underlying3 w0) (trodAll_cons_mk (shut_bool Try.underlying4 _) (trodAll_cons_mk (Below.trod laidOut (by kernel_rfl) (of_decide_eq_true (by kernel_rfl)) k2 bel lt2) trodAll_mk0))), rfl, bel.frame _, fun h => by cases h⟩

theorem over : Rows.frameTornRow.holds Try.pinned (OpenSpec.ofChange Rows.frameTornSpec) :=
  OpenClaim.holds_of_wide 6 Try.f6 rfl rfl rfl rfl rfl rfl rfl ⟨rfl, rfl, rfl, rfl, rfl⟩ rfl rfl rfl rfl rfl (by kernel_rfl) Try.func6 (by kernel_rfl)
    (of_decide_eq_true (by kernel_rfl)) (by unfold Func.isWrapper; first | (rw [if_pos (by decide +kernel)]; kernel_rfl) | (rw [if_neg (by decide +kernel)]; exact ⟨rfl, rfl⟩))
    (fun os started H enc _ => lifted os started H enc)

theorem proved : Rows.FrameTornSaid := over
#print axioms proved
end Go.Proofs.Ytmkpknjhbkbafaa.frameTorn
