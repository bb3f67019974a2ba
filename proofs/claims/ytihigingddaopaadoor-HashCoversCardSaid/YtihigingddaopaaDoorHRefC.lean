/- The document's Cover. -/
import Derived.Test.YtihigingddaopaaDoorHRefR
import Derived.Deep.Cut
import Derived.Deep.RegionHeldLaw
namespace Go.Proofs.YtihigingddaopaaDoor
open Go.RowKit
set_option linter.unusedVariables false
set_option linter.unusedSimpArgs false

def u64L (cs : List Nat) : List Value := cs.map fun (c : Nat) => Value.int .u64 (c : Int)
theorem u64L_len (cs : List Nat) : (u64L cs).length = cs.length := by simp [u64L]
abbrev OwnN (w : World) (base : Nat) (v : Value) (cs : List Nat) : Prop := w.ownsRow base 28 1 v cs.length (u64L cs)
theorem infoU : (Tryd.prog.info? 28).map (fun i => (i.zero, i.size, i.bytes)) = some (some (.int .u64 0), 1, 8) := by kernel_rfl
theorem OwnN.rd {w : World} {base : Nat} {v : Value} {cs : List Nat} (h : OwnN w base v cs) (hn : cs ≠ []) : ∃ g cp, v = .slice (some ⟨g, 0, none⟩) cs.length cp ∧ base ≤ g ∧ g < w.heap.size ∧ RdN w g 0 cs ∧ cs.length ≤ cp ∧ cp ≤ maxLen := by
  have h' := h
  obtain ⟨hl, ⟨_, h0⟩ | ⟨g, cap, cur, rfl, hg, hh, h1, h2, h3, h4⟩⟩ := h
  · exact absurd (List.eq_nil_of_length_eq_zero h0) hn
  · refine ⟨g, cap, rfl, hg, (Array.getElem?_eq_some_iff.1 hh).1, fun i c hc => ?_, h1, h2⟩
    obtain ⟨hi, _⟩ := List.getElem?_eq_some_iff.1 hc
    have := World.ownsRow.cellAt (w := w) (base := base) (e := 28) (size := 1) h' i (by omega)
    rw [Nat.zero_add, this]
    simp [u64L, hc]
theorem OwnN.take {w : World} {base g cp : Nat} {cs : List Nat} (h : OwnN w base (.slice (some ⟨g, 0, none⟩) cs.length cp) cs) {k : Nat} (hk : k ≤ cs.length) : w.ownsRow base 28 1 (.slice (some ⟨g, 0, none⟩) k cp) k (u64L (cs.take k)) := by
  obtain ⟨hl, ⟨hv, _⟩ | ⟨g2, cap, cur, hv, hg, hh, h1, h2, h3, h4⟩⟩ := h
  · simp at hv
  · injection hv with e1 e2 e3
    injection e1 with e1
    injection e1 with e1 _ _
    subst e1 e3
    refine ⟨by rw [u64L_len, List.length_take]; omega, .inr ⟨g, cp, cur, rfl, hg, hh, by omega, h2, h3, ?_⟩⟩
    have : u64L (cs.take k) = (u64L cs).take k := by simp [u64L, List.map_take]
    rw [this, ← h4, List.take_take]
    congr 1
    omega
/-- The four sides of a rect, boxed. -/
structure B4 (W : World) (q : Nat) (a b c d : Value) : Prop where
  hp : W.heap[q]? = some (.cells #[a, b, c, d] 23)
theorem B4.cs {W : World} {q : Nat} {a b c d : Value} (h : B4 W q a b c d) : W.cell? ⟨q, 0, none⟩ = some a ∧ W.cell? ⟨q, 1, none⟩ = some b ∧ W.cell? ⟨q, 2, none⟩ = some c ∧ W.cell? ⟨q, 3, none⟩ = some d := by
  have h := h.hp
  refine ⟨?_, ?_, ?_, ?_⟩ <;> simp [World.cell?, h]
theorem B4.below {W W' : World} {q B : Nat} {a b c d : Value} (h : B4 W q a b c d) (hb : Below B W W') (hq : q < B) : B4 W' q a b c d := ⟨(hb.block q hq).trans h.hp⟩
theorem B4.made (W : World) (a b c d : Value) : B4 (W.alloc (.cells #[a, b, c, d] 23)) W.heap.size a b c d := ⟨heap_alloc_new W _⟩
theorem tdiv_nat (a p : Nat) : Int.tdiv (a : Int) (p : Int) = ((a / p : Nat) : Int) := by rw [Int.tdiv_eq_ediv_of_nonneg (by omega)]; rfl
/-- An append of numbers to a row of the call's own, as a step of a region that draws its order. -/
theorem step_appN {P : Program} {ops : Array Oper} {o : Oper} {a : Act} {w : World} {K : Act → World → Prop} {Q : Exit → Act → World → Prop} {E : Prop} (hgd : o.guard = none) (s x : Operand) (t : TypeId)
    (ho : o.op = .call { callee := .builtin .append, args := #[s, x], argTypes := #[t, t] }) (ht : P.underlying t = some (.slice 28))
    (hinfo : (P.info? 28).map (fun i => (i.zero, i.size, i.bytes)) = some (some (.int .u64 0), 1, 8))
    (base : Nat) (v : Value) (n : Nat) (xs : List Nat) (hs : a.eval s = v) (hown : w.ownsRow base 28 1 v n (u64L xs))
    (B : Option Addr) (m d : Nat) (ns : List Nat) (hm : ns.length = m) (hx : a.eval x = .slice B m d) (hsrc : 0 < m → ∃ b o, B = some ⟨b, o, none⟩ ∧ RdN w b o ns) (hnil : B = none → d = 0) (hsmall : n + m ≤ 1000000) (hbase : base ≤ w.heap.size)
    (h : ∀ v' w', Hid (w'.ownsRow base 28 1 v' (n + m) (u64L (xs ++ ns))) → Hid (w.grownBy w' v.ownBlock) → Hid (v'.ownBlock = v.ownBlock ∨ v'.ownBlock = some w.heap.size) → K (a.put o.dst v') w') :
    if Region.wanted o (yielded ops a.tmps) = true then Oper.wp P o a w K Q else E := by
  have hw : Region.wanted o (yielded ops a.tmps) = true := by simp [Region.wanted, hgd]
  rw [if_pos hw]
  obtain ⟨i0, hi0, hz0, hz1, hz2⟩ := partsOf hinfo
  rcases B with _ | ad
  · have hm0 : m = 0 := by
      rcases Nat.eq_zero_or_pos m with h0 | h0
      · exact h0
      · obtain ⟨b, ob, e, _⟩ := hsrc h0; cases e
    have hd := hnil rfl
    subst hm0 hd
    obtain rfl := List.eq_nil_of_length_eq_zero hm
    have hrun := run_append_owned_none (P := P) (w := w) base t o.type 28 i0 1 ht hi0 _ n _ hown
    unfold Oper.wp
    simp [execOp, ho, resolve, invoke, builtin, hs, hx, hrun, Result.andThen]
    exact h v w (by simpa using Lib.hid hown) (Lib.hid (World.grownBy.refl w _)) (Lib.hid (.inl rfl))
  · obtain ⟨v', w', hr, ho1, hg1, _, hb1⟩ := run_append_own_at (P := P) w base t o.type 28 i0 (.int .u64 0) 1 8 ht hi0 hz0 hz1 hz2 rfl (by omega) v n _ hown ad m d (u64L ns) (by rw [u64L_len]; omega) (by
      intro j u hv
      unfold u64L at hv
      rw [List.getElem?_map] at hv
      obtain ⟨cc, hc1, rfl⟩ := Option.map_eq_some_iff.1 hv
      obtain ⟨hj, _⟩ := List.getElem?_eq_some_iff.1 hc1
      obtain ⟨b, ob, e, hc⟩ := hsrc (by omega)
      injection e with e
      subst e
      have := hc j cc hc1
      unfold Addr.add
      split
      · rename_i h0; subst h0; simpa using this
      · simpa using this) (fun u hu => by
      unfold u64L at hu
      obtain ⟨k, _, rfl⟩ := List.mem_map.1 hu
      rfl) (by unfold maxLen; omega) (by omega) hbase
    unfold Oper.wp
    simp [execOp, ho, resolve, invoke, builtin, hs, hx, hr, Result.andThen]
    refine h v' w' (Lib.hid ?_) (Lib.hid hg1) (Lib.hid hb1)
    have e2 : u64L (xs ++ ns) = u64L xs ++ u64L ns := by simp [u64L]
    rw [e2]; exact ho1
theorem ownN_lit (w : World) (c : Nat) : (w.alloc (.cells #[.int .u64 (c : Int)] 28)).ownsRow w.heap.size 28 1 (.slice (some ⟨w.heap.size, 0, none⟩) 1 1) 1 (u64L [c]) := World.ownsRow_lit w #[.int .u64 (c : Int)] 1 (Nat.le_refl _) (by unfold maxLen; omega) rfl
theorem ownN_rd {w : World} {base n : Nat} {v : Value} {xs : List Nat} (h : w.ownsRow base 28 1 v n (u64L xs)) (hn : 0 < n) : ∃ g cp, v = .slice (some ⟨g, 0, none⟩) n cp ∧ RdN w g 0 xs := by
  have h' := h
  have hl := h.1
  rw [u64L_len] at hl
  obtain ⟨g, cp, rfl, _⟩ := ownB2 h hn
  refine ⟨g, cp, rfl, fun i c hc => ?_⟩
  obtain ⟨hi, _⟩ := List.getElem?_eq_some_iff.1 hc
  have := World.ownsRow.cellAt (w := w) (base := base) (e := 28) (size := 1) h' i (by omega)
  rw [Nat.zero_add, this]
  simp [u64L, hc]
theorem below_new {w w1 : World} {c : Nat} (hg : (w.drew.alloc (.cells #[.int .u64 (c : Int)] 28)).grownBy w1 (Value.slice (some ⟨w.heap.size, 0, none⟩) 1 1).ownBlock) : Below w.heap.size w w1 :=
  ((((Below.refl w.heap.size w).drew).alloc (Nat.le_refl _) _)).grown hg (by simp) (fun j hj => by injection hj with hj; exact Nat.le_of_eq hj)
theorem ins_ne (c : Nat) (l : List Nat) : insL c l ≠ [] := by
  intro e
  have := (ins_perm c l).length_eq
  rw [e] at this
  simp at this
theorem own_lower {W : World} {b0 b1 e size n : Nat} {v : Value} {xs : List Value} (h : W.ownsRow b1 e size v n xs) (hb : b0 ≤ b1) : W.ownsRow b0 e size v n xs := by
  obtain ⟨hl, h0 | ⟨g, cap, cur, hv, hg, r⟩⟩ := h
  · exact ⟨hl, .inl h0⟩
  · exact ⟨hl, .inr ⟨g, cap, cur, hv, by omega, r⟩⟩
theorem flat_len (a c d : Nat) : ∀ i, ((List.range' a i).flatMap (colL c d)).length = i * (d - c + 1) := by
  intro i
  induction i with
  | zero => simp
  | succ i ih => rw [codes_col, List.length_append, ih, List.length_map, List.length_range', Nat.add_mul, Nat.one_mul]
theorem cnt_lt32R {B : Bk} (hB : B.fit) {k m : Nat} (hk : k ≤ 32) (hm : 1 ≤ m) (h : m < (B.up k).cnt) : k < 32 := by
  rcases Nat.lt_or_ge k 32 with h1 | h1
  · exact h1
  · obtain rfl : k = 32 := by omega
    rw [Bk.cnt_32 (Bk.fit_ok hB)] at h
    omega
set_option maxRecDepth 100000 in
set_option maxHeartbeats 16000000 in
theorem refCover_yes (B : Bk) (hB : B.fit) (m : Nat) (hm1 : 1 ≤ m) (hm2 : m ≤ 64) (w : World)
    (hR : ∀ W, Calls Tryd.prog 15 #[.agg #[.int .i64 ((B.a : Int) - 1800000000), .int .i64 ((B.c : Int) - 900000000), .int .i64 ((B.b : Int) - 1800000000), .int .i64 ((B.d : Int) - 900000000)]] W fun e w' => e = .returned (.bool true) ∧ Below W.heap.size W w') :
    Calls Tryd.prog 5 #[.agg #[.int .i64 ((B.a : Int) - 1800000000), .int .i64 ((B.c : Int) - 900000000), .int .i64 ((B.b : Int) - 1800000000), .int .i64 ((B.d : Int) - 900000000)], .int .i64 (m : Nat)] w fun e w' =>
      ∃ v k, e = .returned v ∧ k ≤ 32 ∧ (B.up k).cnt ≤ m ∧ (∀ j, j < k → m < (B.up j).cnt) ∧ w'.ownsRow w.heap.size 31 2 v (refL k B).length (rowQ (refL k B)) ∧ Below w.heap.size w w' := by
  have HR := Lib.hid hR
  have HF := Lib.hid hB
  have HOk := Lib.hid (Bk.fit_ok hB)
  have ha := hB.1
  have hb := hB.2.1
  have hc := hB.2.2.1
  have hd := hB.2.2.2
  clear hR hB
  obtain ⟨X0, hX0⟩ : ∃ X0 : Int, X0 = (B.a : Int) - 1800000000 := ⟨_, rfl⟩
  obtain ⟨Y0, hY0⟩ : ∃ Y0 : Int, Y0 = (B.c : Int) - 900000000 := ⟨_, rfl⟩
  obtain ⟨X1, hX1⟩ : ∃ X1 : Int, X1 = (B.b : Int) - 1800000000 := ⟨_, rfl⟩
  obtain ⟨Y1, hY1⟩ : ∃ Y1 : Int, Y1 = (B.d : Int) - 900000000 := ⟨_, rfl⟩
  rw [← hX0, ← hY0, ← hX1, ← hY1] at HR ⊢
  have e1 : X0 + 1800000000 = (B.a : Int) := by omega
  have e2 : X1 + 1800000000 = (B.b : Int) := by omega
  have e3 : Y0 + 900000000 = (B.c : Int) := by omega
  have e4 : Y1 + 900000000 = (B.d : Int) := by omega
  have w1 : IntKind.i64.wrap (X0 + 1800000000) = (B.a : Int) := by rw [e1]; exact IntWalk.i64_in _ (by omega)
  have w2 : IntKind.i64.wrap (X1 + 1800000000) = (B.b : Int) := by rw [e2]; exact IntWalk.i64_in _ (by omega)
  have w3 : IntKind.i64.wrap (Y0 + 900000000) = (B.c : Int) := by rw [e3]; exact IntWalk.i64_in _ (by omega)
  have w4 : IntKind.i64.wrap (Y1 + 900000000) = (B.d : Int) := by rw [e4]; exact IntWalk.i64_in _ (by omega)
  clear hX0 hY0 hX1 hY1
  go_enter Tryd.func5, Tryd.ntmps5
  go_wp2_with (first
    | (go_at_call 15; (with_reducible refine (HR.out _).mono ?_); rintro e w9 ⟨rfl, l1⟩; have L1 := Lib.hid l1; clear l1))
  have HBx := Lib.hid ((B4.made w (.int .i64 X0) (.int .i64 Y0) (.int .i64 X1) (.int .i64 Y1)).below L1.out (by simp))
  have HL := Lib.hid (((Below.refl w.heap.size w).alloc (Nat.le_refl _) (.cells #[.int .i64 X0, .int .i64 Y0, .int .i64 X1, .int .i64 Y1] 23)).trans (L1.out.mono (by simp)))
  clear L1 HR
  go_loopw [5] (fun dv wr => ∃ k D : Nat, k + D = 32 ∧ dv = .int .i64 (D : Nat) ∧ (∀ j, j < k → m < (B.up j).cnt) ∧ B4 wr w.heap.size (.int .i64 X0) (.int .i64 Y0) (.int .i64 X1) (.int .i64 Y1) ∧ Below w.heap.size w wr) (fun dv _ => (intOf dv).toNat)
  case atStart => exact ⟨0, 32, rfl, rfl, (fun j hj => by omega), HBx.out, HL.out⟩
  case round =>
    obtain ⟨k, D, hkD, rfl, hbig, hbx, hbl⟩ := hrel
    have HBig := Lib.hid hbig
    have HBx := Lib.hid hbx
    have HL := Lib.hid hbl
    have hws := hbl.size
    have hw0 : w.heap.size < wr.heap.size := (Array.getElem?_eq_some_iff.1 hbx.hp).1
    obtain ⟨c0, c1, c2, c3⟩ := hbx.cs
    clear hbig hbx hbl
    have hks : (32 : Int) - (D : Int) = ((k : Nat) : Int) := by omega
    have hksw : IntKind.i64.wrap ((32 : Int) - (D : Int)) = ((k : Nat) : Int) := by rw [hks]; exact IntWalk.i64_in _ (by omega)
    have HPow := Lib.hid (pow_any k (by omega))
    have hp2 : 2 ^ k ≤ 4294967296 := Nat.le_trans (Nat.pow_le_pow_right (by omega) (show k ≤ 32 by omega)) (by decide)
    have hp1 : 0 < 2 ^ k := Nat.pow_pos (by omega)
    have HUp : Hid (B.up k = ⟨B.a / 2 ^ k, B.c / 2 ^ k, B.b / 2 ^ k, B.d / 2 ^ k⟩) := Lib.hid rfl
    have HFit := Lib.hid (Bk.up_fit HF.out k)
    obtain ⟨p, hp⟩ : ∃ p, p = 2 ^ k := ⟨_, rfl⟩
    rw [← hp] at hp1 hp2 HUp HPow
    have HP := Lib.hid hp
    clear hp
    have q1 := tdiv_nat B.a p
    have q2 := tdiv_nat B.b p
    have q3 := tdiv_nat B.c p
    have q4 := tdiv_nat B.d p
    have hfit := HFit.out
    rw [HUp.out] at hfit
    obtain ⟨f1, f2, f3, f4⟩ := hfit
    dsimp only at f1 f2 f3 f4
    generalize B.a / p = a' at *
    generalize B.b / p = b' at *
    generalize B.c / p = c' at *
    generalize B.d / p = d' at *
    have hpz : ((p : Int) == 0) = false := by simp; omega
    go_wp2_with (first
      | (go_at_call 16; (with_reducible refine (HPow.out _).mono ?_); rintro e w9 ⟨rfl, rfl⟩))
    go_quiet (fail)
    go_wp2_with fail
    go_quiet (fail)
    obtain ⟨u, hu⟩ : ∃ u, u = b' - a' := ⟨_, rfl⟩
    obtain ⟨v, hv⟩ : ∃ v, v = d' - c' := ⟨_, rfl⟩
    have hs1 : (b' : Int) - (a' : Int) = (u : Int) := by omega
    have hs2 : (d' : Int) - (c' : Int) = (v : Int) := by omega
    have hw1 : IntKind.i64.wrap ((b' : Int) - (a' : Int)) = (u : Int) := by rw [hs1]; exact IntWalk.i64_in _ (by omega)
    have hw2 : IntKind.i64.wrap ((d' : Int) - (c' : Int)) = (v : Int) := by rw [hs2]; exact IntWalk.i64_in _ (by omega)
    have hcnt : Hid ((B.up k).cnt = (u + 1) * (v + 1)) := Lib.hid (by rw [HUp.out, hu, hv]; rfl)
    have hk32 : k ≤ 32 := by omega
    have HAB : Hid (b' = a' + u ∧ d' = c' + v) := Lib.hid ⟨by omega, by omega⟩
    clear hu hv
    by_cases h1 : 64 ≤ u
    · have k1 : decide ((64 : Int) ≤ (u : Int)) = true := decide_eq_true (by omega)
      have hbg : m < (B.up k).cnt := by rw [hcnt.out]; have : (u + 1) * 1 ≤ (u + 1) * (v + 1) := Nat.mul_le_mul_left _ (by omega); omega
      have hkl := cnt_lt32R HF.out hk32 hm1 hbg
      have HBig2 : Hid (∀ j, j < k + 1 → m < (B.up j).cnt) := Lib.hid fun j hj => by
        by_cases e : j = k
        · subst e; exact hbg
        · exact HBig.out j (by omega)
      clear hbg hcnt
      go_wp2_with fail
      exact ⟨⟨k + 1, D - 1, by omega, by go_num, HBig2.out, ⟨HBx.out.hp⟩, belowQn HL.out _⟩, by simp [intOf]; omega⟩
    · have k1 : decide ((64 : Int) ≤ (u : Int)) = false := decide_eq_false (by omega)
      by_cases h2 : 64 ≤ v
      · have k2 : decide ((64 : Int) ≤ (v : Int)) = true := decide_eq_true (by omega)
        have hbg : m < (B.up k).cnt := by rw [hcnt.out]; have : 1 * (v + 1) ≤ (u + 1) * (v + 1) := Nat.mul_le_mul_right _ (by omega); omega
        have hkl := cnt_lt32R HF.out hk32 hm1 hbg
        have HBig2 : Hid (∀ j, j < k + 1 → m < (B.up j).cnt) := Lib.hid fun j hj => by
          by_cases e : j = k
          · subst e; exact hbg
          · exact HBig.out j (by omega)
        clear hbg hcnt
        go_wp2_with fail
        exact ⟨⟨k + 1, D - 1, by omega, by go_num, HBig2.out, ⟨HBx.out.hp⟩, belowQn HL.out _⟩, by simp [intOf]; omega⟩
      · have k2 : decide ((64 : Int) ≤ (v : Int)) = false := decide_eq_false (by omega)
        obtain ⟨P, hP⟩ : ∃ P, P = (u + 1) * (v + 1) := ⟨_, rfl⟩
        have hP2 : P ≤ 64 * 64 := by rw [hP]; exact Nat.mul_le_mul (by omega) (by omega)
        have hP3 : ((u : Int) + 1) * ((v : Int) + 1) = (P : Int) := by rw [hP]; push_cast; rfl
        have hP4 : IntKind.i64.wrap (((u : Int) + 1) * ((v : Int) + 1)) = (P : Int) := by rw [hP3]; exact IntWalk.i64_in _ (by omega)
        rw [← hP] at hcnt
        clear hP
        by_cases h3 : m < P
        · have k3 : decide ((m : Int) < (P : Int)) = true := decide_eq_true (by omega)
          have hbg : m < (B.up k).cnt := by rw [hcnt.out]; exact h3
          have hkl := cnt_lt32R HF.out hk32 hm1 hbg
          have HBig2 : Hid (∀ j, j < k + 1 → m < (B.up j).cnt) := Lib.hid fun j hj => by
            by_cases e : j = k
            · subst e; exact hbg
            · exact HBig.out j (by omega)
          clear hbg hcnt
          go_wp2_with fail
          exact ⟨⟨k + 1, D - 1, by omega, by go_num, HBig2.out, ⟨HBx.out.hp⟩, belowQn HL.out _⟩, by simp [intOf]; omega⟩
        · have k3 : decide ((m : Int) < (P : Int)) = false := decide_eq_false (by omega)
          go_wp2_with fail
          have HLs := Lib.hid (show P ≤ m by omega)
          have hu6 : u < 64 := by omega
          have hv6 : v < 64 := by omega
          clear k1 k2 k3 h1 h2 h3 hP3 hP4 q1 q2 q3 q4 w1 w2 w3 w4 e1 e2 e3 e4 hks hksw c0 c1 c2 c3 hpz HPow HBx
          have HD1 : Hid (B.b / 2 ^ k < 2 ^ D) := Lib.hid (by rw [Nat.div_lt_iff_lt_mul (Nat.pow_pos (by omega)), ← Nat.pow_add, show D + k = 32 by omega]; omega)
          have HD2 : Hid (B.d / 2 ^ k < 2 ^ D) := Lib.hid (by rw [Nat.div_lt_iff_lt_mul (Nat.pow_pos (by omega)), ← Nat.pow_add, show D + k = 32 by omega]; omega)
          have HUa : Hid ((B.up k).a = a' ∧ (B.up k).b = b' ∧ (B.up k).c = c' ∧ (B.up k).d = d') := Lib.hid (by rw [HUp.out]; exact ⟨rfl, rfl, rfl, rfl⟩)
          have HbD : Hid (b' < 2 ^ D) := Lib.hid (by rw [← HUa.out.2.1]; exact HD1.out)
          have HdD : Hid (d' < 2 ^ D) := Lib.hid (by rw [← HUa.out.2.2.2]; exact HD2.out)
          have HMx : Hid (∀ x y, x ≤ b' → y ≤ d' → mixN x y D = mixN x y 32) := Lib.hid fun x y hx hy => by
            have h := mix_low_eq (x := x) (y := y) (d := D) (by have := HbD.out; omega) (by have := HdD.out; omega) k
            rw [show D + k = 32 by omega] at h
            exact h.symm
          have HMl : Hid (∀ x y, mixN x y D < 18446744073709551616) := Lib.hid fun x y => Nat.lt_of_lt_of_le (mix_lt x y D) (Nat.le_trans (Nat.pow_le_pow_right (by omega) (show D ≤ 32 by omega)) (by decide))
          have HL0 := Lib.hid (show ∀ q, Below w.heap.size w (wr.drewN q) from fun q => belowQn HL.out q)
          go_loopw [11, 12] (fun cv xv W => ∃ i x : Nat, i ≤ u + 1 ∧ x = a' + i ∧ xv = .int .i64 (x : Nat) ∧ OwnN W w.heap.size cv (allIns ((List.range' a' i).flatMap (colL c' d'))) ∧ (allIns ((List.range' a' i).flatMap (colL c' d')) = [] → cv = .slice none 0 0) ∧ Below w.heap.size w W) (fun _ xv _ => b' + 1 - (intOf xv).toNat)
          case atStart => exact ⟨0, a', by omega, rfl, rfl, World.ownsRow_nil _ _ _ _, fun _ => rfl, HL0.out _⟩
          case round =>
            obtain ⟨i, x, hi, hxi, rfl, ho, hnil, hbl⟩ := hrel
            have HXi := Lib.hid hxi
            have HO := Lib.hid ho
            have HNil := Lib.hid hnil
            have HL := Lib.hid hbl
            clear ho hnil hbl
            by_cases hiu : i < u + 1
            · have hxb : x ≤ b' := by omega
              have kxb : decide ((x : Int) ≤ (b' : Int)) = true := decide_eq_true (by omega)
              have kxb2 : decide (x ≤ b') = true := decide_eq_true hxb
              clear hxi
              have HCol := Lib.hid (codes_col a' c' d' i)
              go_wp2_with fail
              clear HL0
              go_loopw [11, 13] (fun cv yv W => ∃ j y : Nat, j ≤ v + 1 ∧ y = c' + j ∧ yv = .int .i64 (y : Nat) ∧ OwnN W w.heap.size cv (allIns (((List.range' a' i).flatMap (colL c' d')) ++ ((List.range' c' j).map fun y => mixN (a' + i) y 32))) ∧ (allIns (((List.range' a' i).flatMap (colL c' d')) ++ ((List.range' c' j).map fun y => mixN (a' + i) y 32)) = [] → cv = .slice none 0 0) ∧ Below w.heap.size w W) (fun _ yv _ => d' + 1 - (intOf yv).toNat)
              case atStart => exact ⟨0, c', by omega, rfl, rfl, by simpa using HO.out, by simpa using HNil.out, HL.out⟩
              case round =>
                obtain ⟨j, y, hj, hyj, rfl, ho, hnil, hbl⟩ := hrel
                have HYj := Lib.hid hyj
                have HO := Lib.hid ho
                have HNil := Lib.hid hnil
                have HL := Lib.hid hbl
                have hws := hbl.size
                clear ho hnil hbl
                by_cases hjv : j < v + 1
                · have hyb : y ≤ d' := by omega
                  clear hyj
                  have HSn := Lib.hid (codes_pre a' c' d' i j)
                  have HMv := Lib.hid (HMx.out x y hxb hyb)
                  have hmi := mix_any x y D (by omega) (by omega) (by omega)
                  rw [HMv.out] at hmi
                  have HMi := Lib.hid hmi
                  clear hmi
                  have hcl := HMl.out x y
                  rw [HMv.out] at hcl
                  have HAl := Lib.hid (allIns_snoc (((List.range' a' i).flatMap (colL c' d')) ++ ((List.range' c' j).map fun y => mixN (a' + i) y 32)) (mixN (a' + i) (c' + j) 32))
                  have hlen : (allIns (((List.range' a' i).flatMap (colL c' d')) ++ ((List.range' c' j).map fun y => mixN (a' + i) y 32))).length ≤ 10000 := by
                    rw [allIns_len, List.length_append, List.length_map, List.length_range', flat_len]
                    have h1 : i * (d' - c' + 1) ≤ 64 * 64 := Nat.mul_le_mul (by omega) (by omega)
                    omega
                  rw [← HSn.out, show a' + i = x from HXi.out.symm, show c' + j = y from HYj.out.symm] at HAl
                  rw [show a' + i = x from HXi.out.symm] at HO HNil hlen
                  generalize allIns (((List.range' a' i).flatMap (colL c' d')) ++ ((List.range' c' j).map fun y => mixN x y 32)) = cs at *
                  generalize mixN x y 32 = c at *
                  clear HSn HMv
                  go_wp2_with (first
                    | (go_at_call 17; (with_reducible refine (HMi.out _).mono ?_); rintro e w9 ⟨rfl, rfl⟩))
                  have hql := less_le c cs
                  have HLt := Lib.hid (less_lt c cs)
                  have HAt := Lib.hid (less_at c cs)
                  rcases cs with _ | ⟨cs0, cst⟩
                  · have hv := HNil.out rfl
                    subst hv
                    go_loop [15] (fun q => q = .int .i64 0) (fun _ => 0)
                    case atStart => rfl
                    case round =>
                      subst hrel
                      go_wp2_with fail
                      have HLit := Lib.hid (ownN_lit wr.drew c)
                      go_region_held_law (fun W => True) (trivial) (first
                        | (refine step_appN rfl _ _ 48 rfl Tryd.underlying48 infoU w.heap.size (.slice none 0 0) (0) ([]) rfl (World.ownsRow_nil _ _ _ _) (some ⟨g1, 0, none⟩) (1 + 0) cp1 ([c] ++ []) rfl rfl (fun _ => ⟨g1, 0, rfl, R1.out⟩) (fun e => by cases e) (by omega) HS1.out ?_; intro v2 w2 ho2 hg2 hn2; have hS2 := trivial)
                        | (refine step_appN rfl _ _ 48 rfl Tryd.underlying48 infoU wr.heap.size (.slice (some ⟨wr.heap.size, 0, none⟩) 1 1) 1 [c] rfl HLit.out (none) (0) (0) [] rfl rfl (fun h0 => absurd h0 (by omega)) (fun _ => rfl) (by omega) (by simp) ?_; intro v1 w1 ho1 hg1 hn1; have B1 := Lib.hid (below_new hg1.out); have HS1 : Hid (w.heap.size ≤ w1.heap.size) := Lib.hid (Nat.le_trans hws B1.out.size); obtain ⟨g1, cp1, rfl, r1⟩ := ownN_rd ho1.out (by omega); have R1 := Lib.hid r1; have hS1 := trivial; clear r1 hg1 hn1))
                      have HB2 : Hid (Below w.heap.size w w2) := Lib.hid ((HL.out.trans (B1.out.mono hws)).grown hg2.out HS1.out (fun jj hjj => by cases hjj))
                      have HO2 : Hid (OwnN w2 w.heap.size v2 (insL c [])) := Lib.hid (show w2.ownsRow w.heap.size 28 1 v2 1 (u64L [c]) by simpa using ho2.out)
                      go_wp2_with fail
                      go_roundw
                      case rel =>
                        exact ⟨j + 1, y + 1, by omega, by have := HYj.out; omega, by go_num, by rw [HXi.out] at HAl; rw [HAl.out]; exact HO2.out, fun e => by rw [HXi.out] at HAl; rw [HAl.out] at e; exact absurd e (ins_ne c _), HB2.out⟩
                      case measure => simp [intOf]; omega
                  · have hne : (cs0 :: cst) ≠ [] := by simp
                    generalize (cs0 :: cst) = cs at *
                    obtain ⟨g, cp, rfl, hgb, hgl, hrd, hcp, hcpm⟩ := OwnN.rd HO.out hne
                    have HRd := Lib.hid hrd
                    have hlp : 0 < cs.length := List.length_pos_iff.2 hne
                    obtain ⟨q, hq⟩ : ∃ q, q = lessN c cs := ⟨_, rfl⟩
                    rw [← hq] at hql HLt HAt
                    have HTk : Hid (∀ W, Below wr.heap.size wr W → W.ownsRow w.heap.size 28 1 (.slice (some ⟨g, 0, none⟩) q cp) q (u64L (cs.take q))) := Lib.hid fun W l => (OwnN.take HO.out hql).kept (row := none) ⟨l.os, l.tape, l.output, l.size, fun jj hjj _ => l.block jj hjj⟩ (.inr (by simp [Value.ownBlock]))
                    have HIns : Hid (insL c cs = cs.take q ++ ([c] ++ cs.drop q)) := Lib.hid (by rw [hq]; exact ins_take c cs)
                    have HDr : Hid (RdN wr g q (cs.drop q)) := Lib.hid fun ii x hx => by
                      rw [List.getElem?_drop] at hx
                      have := hrd (q + ii) x hx
                      rwa [Nat.zero_add] at this
                    have hdl : (cs.drop q).length = cs.length - q := List.length_drop
                    have htl : (cs.take q).length = q := by rw [List.length_take]; omega
                    have HDl := Lib.hid hdl
                    have HTl := Lib.hid htl
                    clear hrd hne hq hdl htl
                    obtain ⟨n, hn⟩ : ∃ n, n = cs.length := ⟨_, rfl⟩
                    rw [← hn] at hlen hql hcp hlp HDl ⊢
                    have HNn := Lib.hid hn
                    clear hn
                    have hcp0 : ¬ cp = 0 := by omega
                    go_loop [15] (fun qv => ∃ kk : Nat, kk ≤ q ∧ qv = .int .i64 (kk : Nat)) (fun qv => q - (intOf qv).toNat)
                    case atStart => exact ⟨0, by omega, rfl⟩
                    case round =>
                      obtain ⟨kk, hkk, rfl⟩ := hrel
                      by_cases hkq : kk < q
                      · obtain ⟨x, hx⟩ : ∃ x, cs[kk]? = some x := ⟨cs[kk]'(by rw [← HNn.out]; omega), List.getElem?_eq_getElem _⟩
                        have cx := HRd.out kk x hx
                        rw [Nat.zero_add] at cx
                        have hxc := HLt.out kk x hx hkq
                        have kx : decide ((x : Int) < (c : Int)) = true := decide_eq_true (by omega)
                        have ky : decide (x < c) = true := decide_eq_true hxc
                        have k0 : decide (kk < n) = true := decide_eq_true (by omega)
                        clear hx
                        go_wp2_with fail
                        exact ⟨⟨kk + 1, by omega, by go_num⟩, by simp [intOf]; omega⟩
                      · obtain rfl : kk = q := by omega
                        have HLit := Lib.hid (ownN_lit wr.drew c)
                        have HSrc : Hid (RdN (wr.drew.alloc (.cells #[.int .u64 (c : Int)] 28)) g kk (cs.drop kk)) := Lib.hid fun ii z hz => kpN ((((Below.refl wr.heap.size wr).drew).alloc (Nat.le_refl _) _)) hgl (HDr.out ii z hz)
                        have HNl : Hid (([c] ++ cs.drop kk).length = 1 + (n - kk)) := Lib.hid (by rw [List.length_append, HDl.out]; rfl)
                        have hkc : kk ≤ cp := by omega
                        have hkc2 : (kk : Int) ≤ (cp : Int) := by omega
                        have hkc3 : ((kk : Int)).toNat ≤ cp := by omega
                        by_cases hcq : cp = kk
                        · have hkn : ¬ kk < n := by omega
                          have kz : decide (kk < n) = false := decide_eq_false hkn
                          have HNl0 : Hid (([c] ++ cs.drop kk).length = 1 + 0) := Lib.hid (by rw [HNl.out]; omega)
                          have HDl0 : Hid ((cs.drop kk).length = 0) := Lib.hid (by rw [HDl.out]; omega)
                          have hnk : n - kk = 0 := by omega
                          have hck : cp - kk = 0 := by omega
                          clear HRd HLt HAt HNl hkc hkc2 hkc3
                          have HNl := HNl0
                          subst hcq
                          go_wp2_with fail
                          go_region_held_law (fun W => True) (trivial) (first
                            | (refine step_appN rfl _ _ 48 rfl Tryd.underlying48 infoU w.heap.size (.slice (some ⟨g, 0, none⟩) cp cp) cp (cs.take cp) rfl (HTk.out _ B1.out) (some ⟨g1, 0, none⟩) (1 + 0) cp1 ([c] ++ cs.drop cp) HNl.out rfl (fun _ => ⟨g1, 0, rfl, R1.out⟩) (fun e => by cases e) (by omega) HS1.out ?_; intro v2 w2 ho2 hg2 hn2; have hS2 := trivial)
                            | (refine step_appN rfl _ _ 48 rfl Tryd.underlying48 infoU wr.heap.size (.slice (some ⟨wr.heap.size, 0, none⟩) 1 1) 1 [c] rfl HLit.out (some ⟨g, 0, none⟩) (0) (0) (cs.drop cp) HDl0.out rfl (fun h0 => absurd h0 (by omega)) (fun e => by cases e) (by omega) (by simp) ?_; intro v1 w1 ho1 hg1 hn1; have B1 := Lib.hid (below_new hg1.out); have HS1 : Hid (w.heap.size ≤ w1.heap.size) := Lib.hid (Nat.le_trans hws B1.out.size); obtain ⟨g1, cp1, rfl, r1⟩ := ownN_rd ho1.out (by omega); have R1 := Lib.hid r1; have hS1 := trivial; clear r1 hg1 hn1))
                          have HB2 : Hid (Below w.heap.size w w2) := Lib.hid ((HL.out.trans (B1.out.mono hws)).grown hg2.out HS1.out (fun jj hjj => by injection hjj with hjj; rw [← hjj]; exact hgb))
                          have HO2 : Hid (OwnN w2 w.heap.size v2 (insL c cs)) := Lib.hid (by have h := ho2.out; rw [HIns.out]; rw [show cp + (1 + 0) = (cs.take cp ++ ([c] ++ cs.drop cp)).length by rw [List.length_append, List.length_append, HTl.out, HDl.out, List.length_singleton]; omega] at h; exact h)
                          go_wp2_with fail
                          go_roundw
                          case rel =>
                            exact ⟨j + 1, y + 1, by omega, by have := HYj.out; omega, by go_num, by rw [HXi.out] at HAl; rw [HAl.out]; exact HO2.out, fun e => by rw [HXi.out] at HAl; rw [HAl.out] at e; exact absurd e (ins_ne c _), HB2.out⟩
                          case measure => simp [intOf]; omega
                        · obtain ⟨rr, hrr⟩ : ∃ rr, n - kk = rr := ⟨_, rfl⟩
                          obtain ⟨ss, hss⟩ : ∃ ss, cp - kk = ss := ⟨_, rfl⟩
                          have HRr := Lib.hid hrr
                          have hrn : rr ≤ n := by omega
                          rw [hrr] at HNl HDl
                          by_cases hkn : kk < n
                          · obtain ⟨z, hz⟩ : ∃ z, cs[kk]? = some z := ⟨cs[kk]'(by rw [← HNn.out]; omega), List.getElem?_eq_getElem _⟩
                            have cx := HRd.out kk z hz
                            rw [Nat.zero_add] at cx
                            have hxc := HAt.out z hz
                            have ky : decide (z < c) = false := decide_eq_false hxc
                            have kz : decide (kk < n) = true := decide_eq_true hkn
                            clear HRd HLt HAt hz
                            go_wp2_with fail
                            go_region_held_law (fun W => True) (trivial) (first
                              | (refine step_appN rfl _ _ 48 rfl Tryd.underlying48 infoU w.heap.size (.slice (some ⟨g, 0, none⟩) kk cp) kk (cs.take kk) rfl (HTk.out _ B1.out) (some ⟨g1, 0, none⟩) (1 + rr) cp1 ([c] ++ cs.drop kk) HNl.out rfl (fun _ => ⟨g1, 0, rfl, R1.out⟩) (fun e => by cases e) (by omega) HS1.out ?_; intro v2 w2 ho2 hg2 hn2; have hS2 := trivial)
                              | (refine step_appN rfl _ _ 48 rfl Tryd.underlying48 infoU wr.heap.size (.slice (some ⟨wr.heap.size, 0, none⟩) 1 1) 1 [c] rfl HLit.out (some ⟨g, kk, none⟩) (rr) (ss) (cs.drop kk) HDl.out rfl (fun h0 => ⟨g, kk, rfl, HSrc.out⟩) (fun e => by cases e) (by omega) (by simp) ?_; intro v1 w1 ho1 hg1 hn1; have B1 := Lib.hid (below_new hg1.out); have HS1 : Hid (w.heap.size ≤ w1.heap.size) := Lib.hid (Nat.le_trans hws B1.out.size); obtain ⟨g1, cp1, rfl, r1⟩ := ownN_rd ho1.out (by omega); have R1 := Lib.hid r1; have hS1 := trivial; clear r1 hg1 hn1))
                            have HB2 : Hid (Below w.heap.size w w2) := Lib.hid ((HL.out.trans (B1.out.mono hws)).grown hg2.out HS1.out (fun jj hjj => by injection hjj with hjj; rw [← hjj]; exact hgb))
                            have HO2 : Hid (OwnN w2 w.heap.size v2 (insL c cs)) := Lib.hid (by have h := ho2.out; rw [HIns.out]; rw [show kk + (1 + rr) = (cs.take kk ++ ([c] ++ cs.drop kk)).length by rw [List.length_append, List.length_append, HTl.out, HDl.out, List.length_singleton]] at h; exact h)
                            go_wp2_with fail
                            go_roundw
                            case rel =>
                              exact ⟨j + 1, y + 1, by omega, by have := HYj.out; omega, by go_num, by rw [HXi.out] at HAl; rw [HAl.out]; exact HO2.out, fun e => by rw [HXi.out] at HAl; rw [HAl.out] at e; exact absurd e (ins_ne c _), HB2.out⟩
                            case measure => simp [intOf]; omega
                          · have kz : decide (kk < n) = false := decide_eq_false hkn
                            clear HRd HLt HAt
                            go_wp2_with fail
                            go_region_held_law (fun W => True) (trivial) (first
                              | (refine step_appN rfl _ _ 48 rfl Tryd.underlying48 infoU w.heap.size (.slice (some ⟨g, 0, none⟩) kk cp) kk (cs.take kk) rfl (HTk.out _ B1.out) (some ⟨g1, 0, none⟩) (1 + rr) cp1 ([c] ++ cs.drop kk) HNl.out rfl (fun _ => ⟨g1, 0, rfl, R1.out⟩) (fun e => by cases e) (by omega) HS1.out ?_; intro v2 w2 ho2 hg2 hn2; have hS2 := trivial)
                              | (refine step_appN rfl _ _ 48 rfl Tryd.underlying48 infoU wr.heap.size (.slice (some ⟨wr.heap.size, 0, none⟩) 1 1) 1 [c] rfl HLit.out (some ⟨g, kk, none⟩) (rr) (ss) (cs.drop kk) HDl.out rfl (fun h0 => ⟨g, kk, rfl, HSrc.out⟩) (fun e => by cases e) (by omega) (by simp) ?_; intro v1 w1 ho1 hg1 hn1; have B1 := Lib.hid (below_new hg1.out); have HS1 : Hid (w.heap.size ≤ w1.heap.size) := Lib.hid (Nat.le_trans hws B1.out.size); obtain ⟨g1, cp1, rfl, r1⟩ := ownN_rd ho1.out (by omega); have R1 := Lib.hid r1; have hS1 := trivial; clear r1 hg1 hn1))
                            have HB2 : Hid (Below w.heap.size w w2) := Lib.hid ((HL.out.trans (B1.out.mono hws)).grown hg2.out HS1.out (fun jj hjj => by injection hjj with hjj; rw [← hjj]; exact hgb))
                            have HO2 : Hid (OwnN w2 w.heap.size v2 (insL c cs)) := Lib.hid (by have h := ho2.out; rw [HIns.out]; rw [show kk + (1 + rr) = (cs.take kk ++ ([c] ++ cs.drop kk)).length by rw [List.length_append, List.length_append, HTl.out, HDl.out, List.length_singleton]] at h; exact h)
                            go_wp2_with fail
                            go_roundw
                            case rel =>
                              exact ⟨j + 1, y + 1, by omega, by have := HYj.out; omega, by go_num, by rw [HXi.out] at HAl; rw [HAl.out]; exact HO2.out, fun e => by rw [HXi.out] at HAl; rw [HAl.out] at e; exact absurd e (ins_ne c _), HB2.out⟩
                            case measure => simp [intOf]; omega
                · obtain rfl : j = v + 1 := by omega
                  have hdv : d' - c' + 1 = v + 1 := by omega
                  have HE : Hid (((List.range' a' i).flatMap (colL c' d')) ++ ((List.range' c' (v + 1)).map fun y => mixN (a' + i) y 32) = (List.range' a' (i + 1)).flatMap (colL c' d')) := Lib.hid (by rw [HCol.out, hdv])
                  rw [HE.out] at HO HNil
                  have kyf : decide ((y : Int) ≤ (d' : Int)) = false := decide_eq_false (by omega)
                  have kyf2 : decide (y ≤ d') = false := decide_eq_false (by omega)
                  clear hyj hdv
                  go_wp2_with fail
                  exact ⟨⟨i + 1, x + 1, by omega, by have := HXi.out; omega, by go_num, HO.out, HNil.out, HL.out⟩, by simp [intOf]; omega⟩
            · obtain rfl : i = u + 1 := by omega
              have hbu : b' - a' + 1 = u + 1 := by omega
              have HCo : Hid ((List.range' a' (u + 1)).flatMap (colL c' d') = (B.up k).codes) := Lib.hid (by
                show _ = codesL (B.up k).a (B.up k).b (B.up k).c (B.up k).d
                rw [HUa.out.1, HUa.out.2.1, HUa.out.2.2.1, HUa.out.2.2.2, ← hbu]; rfl)
              have hlen : (allIns (B.up k).codes).length ≤ 64 := by
                rw [allIns_len, ← HCo.out, flat_len]
                have h := hcnt.out
                have h2 : (B.up k).cnt = (u + 1) * (d' - c' + 1) := by
                  show ((B.up k).b - (B.up k).a + 1) * ((B.up k).d - (B.up k).c + 1) = _
                  rw [HUa.out.1, HUa.out.2.1, HUa.out.2.2.1, HUa.out.2.2.2, hbu]
                rw [← h2, h]
                have := HLs.out
                omega
              have hne : allIns (B.up k).codes ≠ [] := by
                intro e
                have h := congrArg List.length e
                rw [allIns_len, ← HCo.out, flat_len] at h
                have : 1 * 1 ≤ (u + 1) * (d' - c' + 1) := Nat.mul_le_mul (by omega) (by omega)
                simp at h
              rw [HCo.out] at HO HNil
              have hnd := codes_nd (Bk.up_ok HOk.out k)
              have HSr := Lib.hid (allIns_sorted hnd)
              have HT : Hid (∀ c ∈ allIns (B.up k).codes, (c + 1) * 4 ^ k ≤ 18446744073709551616) := Lib.hid fun c hc => by
                have hc2 := (allIns_perm _).mem_iff.1 hc
                obtain ⟨x, y, hx, hy, rfl⟩ := codes_mem.1 hc2
                rw [HUa.out.1, HUa.out.2.1] at hx
                rw [HUa.out.2.2.1, HUa.out.2.2.2] at hy
                rw [← HMx.out x y (by omega) (by omega)]
                have h1 := mix_lt x y D
                have h2 : (mixN x y D + 1) * 4 ^ k ≤ 4 ^ D * 4 ^ k := Nat.mul_le_mul_right _ (by omega)
                rw [← Nat.pow_add, show D + k = 32 by omega] at h2
                exact h2
              obtain ⟨g, cp, rfl, hgb, hgl, hrd, hcp, hcpm⟩ := OwnN.rd HO.out hne
              have hrg := ranges_any (allIns (B.up k).codes) k (by omega) hlen HSr.out HT.out g 0 cp wr hrd hgl
              rw [show (32 : Int) - ((k : Nat) : Int) = (D : Int) by omega] at hrg
              have HRg := Lib.hid hrg
              have hws2 := HL.out.size
              have kxf : decide ((x : Int) ≤ (b' : Int)) = false := decide_eq_false (by omega)
              have kxf2 : decide (x ≤ b') = false := decide_eq_false (by omega)
              have HRes : Hid (k ≤ 32 ∧ (B.up k).cnt ≤ m ∧ ∀ j, j < k → m < (B.up j).cnt) := Lib.hid ⟨by omega, by rw [hcnt.out]; exact HLs.out, HBig.out⟩
              clear hrg hrd hnd hxi hbu
              generalize (allIns (B.up k).codes).length = nn at *
              go_wp2_with (first
                | (go_at_call 18; (with_reducible refine HRg.out.mono ?_); rintro e w9 ⟨rv, rfl, orv, l9⟩; have HO9 := Lib.hid orv; have HL9 := Lib.hid (HL.out.trans (l9.mono hws2)); clear orv l9))
              go_ret
              exact ⟨rv, k, rfl, HRes.out.1, HRes.out.2.1, HRes.out.2.2, own_lower HO9.out hws2, HL9.out⟩
end Go.Proofs.YtihigingddaopaaDoor
