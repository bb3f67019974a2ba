/- Merged texts: LRGrp, MSeqMemZ, LCln, LClean, LKeepY, LAgP, LWhP, LArgs2, LRefs, LRdP. -/
import Derived.Test.YtmikemijdglgaaaQh
import Derived.Laws.IdiomStrings
/- The document's Groups over a row of sectors. -/
namespace Go.Proofs.Ytmikemijdglgaaa
open Go.RowKit
set_option linter.unusedVariables false
set_option linter.unusedSimpArgs false

/-- A slot's page, flag, change. -/
def pgN (F : Nat → Nat) : Nat := leTo (fun j => F (16 + j)) 8
def dcN (F : Nat → Nat) : Dc := (pgN F, strF (fun j => F (25 + j)) 19)
def goodN (Fs : Nat → Nat → Nat) (ep k : Nat) : Prop := epochN (Fs k) 44 k = ep ∧ pgN (Fs k) ≤ 2147483647 ∧ Fs k 24 ≤ 1
/-- The groups of the first slots, and what is begun. -/
def gN (Fs : Nat → Nat → Nat) : Nat → List (List Dc) × List Dc
  | 0 => ([], [])
  | k + 1 => if Fs k 24 = 1 then ((gN Fs k).1 ++ [(gN Fs k).2 ++ [dcN (Fs k)]], []) else ((gN Fs k).1, (gN Fs k).2 ++ [dcN (Fs k)])
theorem gN_len (Fs : Nat → Nat → Nat) (k : Nat) : (gN Fs k).1.length ≤ k ∧ (gN Fs k).2.length ≤ k := by
  induction k with
  | zero => exact ⟨Nat.le_refl _, Nat.le_refl _⟩
  | succ k ih => rw [gN]; split <;> simp <;> omega
theorem top_big {F : Nat → Nat} {k : Nat} (hk : k ≤ 8) (h : 2147483647 < topF F k) : 2147483647 < leTo F 8 := by
  have h1 := top_grows F k 8 (by omega)
  rw [top_all] at h1
  omega
def GrpPost (Fs : Nat → Nat → Nat) (n ep : Nat) (w : World) (e : Ending) (w' : World) : Prop :=
  ∃ t u g, t ≤ n ∧ (∀ j, j < t → goodN Fs ep j) ∧ (t = n ∨ ¬ goodN Fs ep t) ∧ e = .returned u ∧ GB w.heap.size (gN Fs t).1 (gN Fs t).2 u g w' ∧ Below w.heap.size w w'
set_option maxRecDepth 100000 in
set_option maxHeartbeats 8000000 in
theorem refGroups_any (n ep : Nat) (Fs : Nat → Nat → Nat) (v : Value) (w : World) (h : SRow w n Fs v) (he1 : 1 ≤ ep) (he2 : ep ≤ 1099511627776) :
    Calls Try.prog 30 #[v, .int .i64 ep] w (GrpPost Fs n ep w) := by
  obtain ⟨A, c, rfl, hn, hS⟩ := h
  have HS := Lib.hid hS
  clear hS
  obtain ⟨i1, hi1, hy0, hy1, hy2⟩ := infoPartsR infoDcs
  have HI := Lib.hid (And.intro hi1 (And.intro hy0 (And.intro hy1 hy2)))
  clear hi1 hy0 hy1 hy2
  obtain ⟨i2, hi2, ha0, ha1, ha2⟩ := infoPartsR infoDc
  have HI2 := Lib.hid (And.intro hi2 (And.intro ha0 (And.intro ha1 ha2)))
  clear hi2 ha0 ha1 ha2
  go_enter Try.func30, Try.ntmps30
  go_wp2
  go_loopw [5, 6, 7] (fun u g i wr => ∃ k : Nat, k ≤ n ∧ i = .int .i64 k ∧ (∀ j, j < k → goodN Fs ep j) ∧ GB w.heap.size (gN Fs k).1 (gN Fs k).2 u g wr ∧ Below w.heap.size w wr) (fun u g i _ => n - (intOf i).toNat)
  case atStart => exact ⟨0, Nat.zero_le _, rfl, fun j hj => absurd hj (by omega), GB.nil _ _, Below.refl _ _⟩
  case round =>
    obtain ⟨k, hk, rfl, hall, hgb, hbl⟩ := hrel
    obtain ⟨wo, hwo⟩ : ∃ wo, wo = wr := ⟨_, rfl⟩
    subst hwo
    have HL := Lib.hid hbl
    have HG := Lib.hid hgb
    have HA := Lib.hid hall
    by_cases hlt : k < n
    · obtain ⟨b, o, rfl, b', o', c', q, h1, h2, h3⟩ := HS.out k hlt
      have q1 := kept_l hbl (cell_lt' q) q
      obtain ⟨y, hyy⟩ : ∃ y, y = epochN (Fs k) 44 k := ⟨_, rfl⟩
      have HF := Lib.hid h3.2.1
      have KS := Lib.hid (refSlot_any k b' o' 64 44 c' (Fs k) wo (by omega) (by omega) (by omega) (by omega) (by omega) h1 h2 (h3.below hbl (Nat.le_refl _)))
      have HY := Lib.hid hyy
      clear hyy h1 h2 h3 q hbl hgb hall
      go_wp2_with fail
      refine KS.out.mono ?_
      rintro e w1 ⟨hc, l1⟩
      have L1 := Lib.hid (HL.out.trans (l1.mono HL.out.size))
      have HG1 := Lib.hid (HG.out.below l1)
      clear l1
      rw [← HY.out] at hc
      rcases hc with ⟨hy0, rfl⟩ | ⟨_, B, d, rfl, hB, hd1, hd2, hd3⟩
      · have hne : ¬ (0 : Int) = (ep : Int) := by omega
        have HN := Lib.hid (show ¬ goodN Fs ep k from fun g => by have := g.1; rw [← HY.out] at this; omega)
        clear hy0
        go_wp2
        go_ret
        exact ⟨k, _, _, hk, HA.out, .inr HN.out, rfl, HG1.out, L1.out⟩
      · by_cases hye : y = ep
        case neg =>
          have hne : ¬ (y : Int) = (ep : Int) := by omega
          have HN := Lib.hid (show ¬ goodN Fs ep k from fun g => by have := g.1; rw [← HY.out] at this; omega)
          go_wp2
          go_ret
          exact ⟨k, _, _, hk, HA.out, .inr HN.out, rfl, HG1.out, L1.out⟩
        subst hye
        obtain ⟨F, hFF⟩ : ∃ F, F = fun j => Fs k (16 + j) := ⟨_, rfl⟩
        rw [← hFF] at hB
        have HFF := Lib.hid hFF
        obtain ⟨bb, oo, rfl, hcell⟩ := hB.2.2 (by omega)
        have HD3 := Lib.hid (show wo.heap.size ≤ bb from hd3 _ rfl)
        clear hd3
        have HB := Lib.hid hB
        have HC := Lib.hid hcell
        have hlt8 := hB.2.1
        clear hB hcell hFF
        have hP : pgN (Fs k) = leTo F 8 := by rw [HFF.out]; rfl
        have HP := Lib.hid hP
        clear hP
        go_wp2
        go_loopw [10, 11] (fun pg i W => ((∃ j : Nat, j ≤ 7 ∧ i = .int .i64 j ∧ pg = .int .i64 (topF F (7 - j))) ∨ (i = .int .i64 (-1) ∧ pg = .int .i64 (topF F 8))) ∧ W = w1) (fun pg i _ => (intOf i + 1).toNat)
        case atStart => exact ⟨.inl ⟨7, by omega, rfl, rfl⟩, rfl⟩
        case round =>
          obtain ⟨hrel, rfl⟩ := hrel
          rcases hrel with ⟨j, hj, rfl, rfl⟩ | ⟨rfl, rfl⟩
          · by_cases hhi : 2147483647 < topF F (7 - j)
            · have HN := Lib.hid (show ¬ goodN Fs y k from fun g => by have := g.2.1; rw [HP.out] at this; have := top_big (by omega) hhi; omega)
              obtain ⟨x, hxx⟩ : ∃ x, x = topF F (7 - j) := ⟨_, rfl⟩
              rw [← hxx] at hhi ⊢
              clear hxx
              go_wp2
              go_ret
              exact ⟨k, _, _, hk, HA.out, .inr HN.out, rfl, HG1.out, L1.out⟩
            · have hF := hlt8 j (by omega)
              have hcj := HC.out j (by omega)
              have hstep : 256 * topF F (7 - j) + F j = topF F (7 - j + 1) := by
                rw [topF]
                congr 2
                omega
              obtain ⟨x, hxx⟩ : ∃ x, x = topF F (7 - j) := ⟨_, rfl⟩
              rw [← hxx] at hhi hstep ⊢
              have HSt := Lib.hid hstep
              clear hxx hstep
              by_cases hj0 : j = 0
              · subst hj0
                have hcj0 : wr.cell? ⟨bb, oo, none⟩ = some (.int .u8 (F 0)) := by rw [Nat.add_zero] at hcj; exact hcj
                clear hcj
                go_wp2
                go_roundw
                case rel => exact ⟨.inr ⟨rfl, by rw [← HSt.out]; go_num⟩, trivial⟩
                case measure => simp [intOf]
              · have hjp : 0 < j := by omega
                clear hj0
                go_wp2
                go_roundw
                case rel => exact ⟨.inl ⟨j - 1, by omega, by go_num, by rw [show 7 - (j - 1) = 7 - j + 1 from by omega, ← HSt.out]; go_num⟩, trivial⟩
                case measure => simp only [intOf]; omega
          · rw [top_all]
            have hc8 := HC.out 8 (by omega)
            have hf8 := hlt8 8 (by omega)
            have hFl : Fs k 24 = F 8 := by rw [HFF.out]
            obtain ⟨p, hpp⟩ : ∃ p, p = leTo F 8 := ⟨_, rfl⟩
            obtain ⟨f8, hff⟩ : ∃ f8, f8 = F 8 := ⟨_, rfl⟩
            rw [← hpp] at HP ⊢
            rw [← hff] at hc8 hf8 hFl
            have HFl := Lib.hid hFl
            clear hpp hff hFl
            by_cases hpb : 2147483647 < p
            · have HN := Lib.hid (show ¬ goodN Fs y k from fun g => by have := g.2.1; rw [HP.out] at this; omega)
              go_wp2
              go_ret
              exact ⟨k, _, _, hk, HA.out, .inr HN.out, rfl, HG1.out, L1.out⟩
            by_cases hfb : 1 < f8
            · have HN := Lib.hid (show ¬ goodN Fs y k from fun g => by have := g.2.2; rw [HFl.out] at this; omega)
              have hfI : (1 : Int) < (f8 : Int) := by omega
              go_wp2
              go_ret
              exact ⟨k, _, _, hk, HA.out, .inr HN.out, rfl, HG1.out, L1.out⟩
            have hfI : ¬ (1 : Int) < (f8 : Int) := by omega
            have HGood := Lib.hid (show goodN Fs y k from ⟨HY.out.symm, by rw [HP.out]; omega, by rw [HFl.out]; omega⟩)
            obtain ⟨xs, hxs⟩ : ∃ s, s = strF (fun i => F (9 + i)) 19 := ⟨_, rfl⟩
            have cv : (convert 42 9 (.slice (some ⟨bb, oo + 9, none⟩) 19 (d - 9))).run Try.prog wr = .ok (.string xs) wr := by
              rw [hxs]
              exact conv_any (d - 9) (HB.out.cut 9 19 (by omega))
            have HD := Lib.hid (show dcN (Fs k) = ((p : Int), xs) by
              rw [hxs, HFF.out]
              unfold dcN
              rw [HP.out]
              congr 1)
            clear hxs
            have hlen := (gN_len Fs k)
            obtain ⟨l1, hl1⟩ : ∃ l, l = (gN Fs k).2 := ⟨_, rfl⟩
            obtain ⟨gs, hgs⟩ : ∃ l, l = (gN Fs k).1 := ⟨_, rfl⟩
            rw [← hl1, ← hgs] at hlen HG1 HG
            have HGs := Lib.hid (And.intro hl1 hgs)
            clear hl1 hgs
            obtain ⟨⟨A5, c5, rfl⟩, ⟨A7, c7, rfl⟩, _⟩ := HG1.out.len
            have hA7 : ∀ q, (Value.slice A7 l1.length c7).ownBlock = some q → q < wo.heap.size := fun q h => (HG.out.own.2.lt q h).2
            have HA7 := Lib.hid hA7
            clear hA7
            have l3 : Below wr.heap.size wr (wr.alloc (.cells #[.int .i64 (p : Nat), .string xs] 47)) := (Below.refl _ _).alloc (Nat.le_refl _) _
            have L3 := Lib.hid l3
            have HO3 := Lib.hid (own_belowR HG1.out.own.2 l3)
            have HB3 := Lib.hid (HG1.out.below l3)
            have HC3 := Lib.hid (kept_l l3 (cell_lt' hc8) hc8)
            have hsz := L1.out.size
            have hbl : bb < wr.heap.size := cell_lt' hc8
            clear l3
            by_cases hf1 : f8 = 1
            · have hfn : (f8 : Int) = 1 := by omega
              go_wp2_with (first
                | (at_builtin; refine wpList_append_own_at _ rfl _ _ 45 rfl w.heap.size 47 i2 (.agg #[.int .i64 0, .string ByteArray.empty]) 2 24 Try.underlying45 HI2.out.1 HI2.out.2.1 HI2.out.2.2.1 HI2.out.2.2.2 rfl (by decide) _ _ _ rfl HO3.out ⟨wr.heap.size, 0, none⟩ 1 1 [.int .i64 (p : Nat), .string xs] rfl rfl (cells_newR2 _ _ _ _) (by simp [Value.oneCell']) (by unfold maxLen; omega) (by omega) (by simp; omega) ?_; intro v2 w9 hown hgr _ hat; obtain ⟨A2, c2, rfl⟩ := own_sl hown; have hc9 := (World.cell?_of_block (w := wr.alloc (.cells #[.int .i64 (p : Nat), .string xs] 47)) (a := ⟨bb, oo + 8, none⟩) (hgr.block bb (by simp; omega) (fun e => by have := HA7.out _ e.symm; have := HD3.out; omega))).trans HC3.out; have LW : Hid (Below w.heap.size w w9) := Lib.hid ((L1.out.trans (L3.out.mono hsz)).grown hgr (Nat.le_trans hsz (by simp)) (fun j hj => (HO3.out.lt j hj).1)); have HGP := Lib.hid (show GB w.heap.size gs (l1 ++ [((p : Int), xs)]) (.slice A5 gs.length c5) (.slice A2 (l1.length + 1) c2) w9 from HB3.out.push (x := ((p : Int), xs)) (by omega) hown hgr hat); have L4 := Lib.hid (show Below w9.heap.size w9 (w9.alloc (.cells #[.slice A2 (l1.length + 1) c2] 45)) from (Below.refl _ _).alloc (Nat.le_refl _) _); have HB4 := Lib.hid (HGP.out.below L4.out); obtain ⟨vs, hvs⟩ := HGP.out.own.1; have HV4 := Lib.hid (own_belowR hvs L4.out); have hs9 := LW.out.size; clear hown hgr hat hvs)
                | (at_builtin; refine wpList_append_own_at _ rfl _ _ 37 rfl w.heap.size 45 i1 (.slice none 0 0) 1 24 Try.underlying37 HI.out.1 HI.out.2.1 HI.out.2.2.1 HI.out.2.2.2 rfl (by decide) _ _ _ rfl HV4.out ⟨w9.heap.size, 0, none⟩ 1 1 [.slice A2 (l1.length + 1) c2] rfl rfl (cells_newR1 _ _ _) (by simp [Value.oneCell']) (by unfold maxLen; omega) (by omega) (by simp; omega) ?_; intro v3 w10 hown hgr _ hat; have LW2 : Hid (Below w.heap.size w w10) := Lib.hid ((LW.out.trans (L4.out.mono hs9)).grown hgr (Nat.le_trans hs9 (by simp)) (fun j hj => (HV4.out.lt j hj).1)); have HQ2 := Lib.hid (And.intro hown hgr); clear hown hgr hat))
              go_roundw
              case rel =>
                refine ⟨k + 1, by omega, by go_num, fun j hj => ?_, ?_, LW2.out⟩
                · rcases Nat.lt_or_ge j k with z | z
                  · exact HA.out j z
                  · obtain rfl : j = k := by omega
                    exact HGood.out
                · rw [gN, if_pos (by rw [HFl.out]; exact hf1), ← HGs.out.1, ← HGs.out.2, HD.out]
                  exact HB4.out.close (by omega) (fun vs' hv => by
                    rw [own_same hv HV4.out]
                    exact HQ2.out.1) HQ2.out.2
              case measure => simp [intOf]; omega
            · have hfn : ¬ (f8 : Int) = 1 := by omega
              go_wp2_with (at_builtin; refine wpList_append_own_at _ rfl _ _ 45 rfl w.heap.size 47 i2 (.agg #[.int .i64 0, .string ByteArray.empty]) 2 24 Try.underlying45 HI2.out.1 HI2.out.2.1 HI2.out.2.2.1 HI2.out.2.2.2 rfl (by decide) _ _ _ rfl HO3.out ⟨wr.heap.size, 0, none⟩ 1 1 [.int .i64 (p : Nat), .string xs] rfl rfl (cells_newR2 _ _ _ _) (by simp [Value.oneCell']) (by unfold maxLen; omega) (by omega) (by simp; omega) ?_; intro v2 w9 hown hgr _ hat; have hc9 := (World.cell?_of_block (w := wr.alloc (.cells #[.int .i64 (p : Nat), .string xs] 47)) (a := ⟨bb, oo + 8, none⟩) (hgr.block bb (by simp; omega) (fun e => by have := HA7.out _ e.symm; have := HD3.out; omega))).trans HC3.out; have LW : Hid (Below w.heap.size w w9) := Lib.hid ((L1.out.trans (L3.out.mono hsz)).grown hgr (Nat.le_trans hsz (by simp)) (fun j hj => (HO3.out.lt j hj).1)); have HQ := Lib.hid (And.intro hown (And.intro hgr hat)); clear hown hgr hat)
              go_roundw
              case rel =>
                refine ⟨k + 1, by omega, by go_num, fun j hj => ?_, ?_, LW.out⟩
                · rcases Nat.lt_or_ge j k with z | z
                  · exact HA.out j z
                  · obtain rfl : j = k := by omega
                    exact HGood.out
                · rw [gN, if_neg (by rw [HFl.out]; exact hf1), ← HGs.out.1, ← HGs.out.2, HD.out]
                  exact HB3.out.push (x := ((p : Int), xs)) (by omega) HQ.out.1 HQ.out.2.1 HQ.out.2.2
              case measure => simp [intOf]; omega
    · obtain rfl : k = n := by omega
      clear hbl hgb hall
      go_wp2
      go_ret
      exact ⟨k, _, _, Nat.le_refl _, HA.out, .inl rfl, rfl, HG.out, HL.out⟩
end Go.Proofs.Ytmikemijdglgaaa
/- As MSeqMemA, for an iterator whose own state turns with the rounds: what it reads in a round is in what the loop keeps (Z). No word of any package. -/
namespace Go.Proofs.Ytmikemijdglgaaa
open Go Go.RowKit
set_option linter.unusedVariables false
variable {P : Program} {F : Fence} {D m : Nat} {r r' : Loop} {W W' : World}
/-- The contract of an iterator that owes Y of each element at its yield, as long as the loop keeps Z. -/
def SeqMemZ {α : Type} (F : Fence) (n : Nat) (P : Program) (g : Nat) (lb : Array Value) (encs : α → Array Value) (Y : List α → α → World → Prop) (Kp : World → World → Prop) (S Sp : List α → Prop) (N : Nat) (Z : List α → World → Prop) (w : World) : Prop :=
  ∀ (l : Nat) (J Jx : List α → World → Prop) (W : World), Below w.heap.size w W → AbidesFrom W.heap.size J → AbidesFrom W.heap.size Jx → (∀ pre W1, J pre W1 → Z pre W1) →
    (∀ pre x W1, J pre W1 → Y pre x W1 → pre.length < N → YieldAt F (n - 1) P l (encs x) W1 fun e W' =>
      (e = .returned (.bool true) ∧ J (pre ++ [x]) W' ∧ Kp W1 W') ∨ (e = .returned (.bool false) ∧ Jx (pre ++ [x]) W')) →
    J [] W →
    CallsIn F n P g (#[.func (.yield l) #[] #[]] ++ lb) W fun e W' => (∃ v, e = .returned v) ∧ ((∃ xs, S xs ∧ J xs W') ∨ (∃ pre, Sp pre ∧ Jx pre W'))
set_option maxHeartbeats 300000 in
/-- The loop over an iterator that owes Y. How a round may be left: it goes on, returns, or leaves a block. -/
theorem SeqMemZ.loopA {α : Type} {n : Nat} {g : Operand} {ps : Array Tmp} {assign body : Code} {Q : Exit → Act → World → Prop} {a : Act} {w : World}
    (hro : F.round = none) (h1 : 1 ≤ n) {gf : Nat} {lb : Array Value} (hg : a.eval g = .func (.func gf) #[] lb) (hFg : F.fn gf) (eg : ∀ args w, (callFunc gf args).run P w = .ok (.enter gf args) w)
    {encs : α → Array Value} {Y : List α → α → World → Prop} {Kp : World → World → Prop} {S Sp : List α → Prop} {N : Nat} {Z : List α → World → Prop} {w0 : World} (hseq : SeqMemZ F (n - 1) P gf lb encs Y Kp S Sp N Z w0)
    (hKt : ∀ {A B C : World}, Kp A B → Kp B C → Kp A C) (hKb : ∀ (W : World) (l : Nat) (o o' : Obj), w.heap.size ≤ l → W.heap[l]? = some o → o.isCells = false → o.isWalk = false → Kp W (W.putObj l o'))
    (hb0 : Below w0.heap.size w0 w) (hps : ∀ x, (encs x).size = ps.size)
    (I : List α → World → Prop) (Ix : Code → List α → World → Prop) (hI : OwnFrom w.heap.size I) (hIx : ∀ c, OwnFrom w.heap.size (Ix c)) (h0 : I [] w) (hIZ : ∀ pre W, I pre W → Z pre W)
    (A : List α → α → Act → World → Prop) (hAp : ∀ pre x a' W1 l o o', w.heap.size ≤ l → A pre x a' W1 → W1.heap[l]? = some o → o.isCells = false → A pre x a' (W1.putObj l o'))
    (hassign : ∀ (l : Nat) (pre : List α) (x : α) (W : World) (K : Act → World → Prop), I pre W → Y pre x W → pre.length < N → (∀ a' W1, A pre x a' W1 → KeepsOthers W W1 → Kp W W1 → K a' W1) →
      assign.wpIn (F.inRound l) (n - 1 - 1) P (Exit.then K (fun _ _ _ => False)) { tmps := (ps.zip (encs x)).foldl (fun t (p, v) => t.setIfInBounds p v) a.tmps, defers := [] } W)
    (BP : List α → World → Exit → Act → World → Prop)
    (hbody : ∀ (l : Nat) (pre : List α) (x : α) (a' : Act) (W : World), A pre x a' W → pre.length < N → body.wpIn (F.inRound l) (n - 1 - 1) P (BP (pre ++ [x]) W) a' W)
    (hBn : ∀ xs W a' W', BP xs W .normal a' W' → KeepsOthers W W' ∧ Kp W W' ∧ I xs W')
    (hBr : ∀ xs W a' W', BP xs W .ret a' W' → KeepsOthers W W' ∧ Ix .ret xs W')
    (hBe : ∀ xs W id a' W', BP xs W (.exit id) a' W' → KeepsOthers W W' ∧ Ix (.exit id) xs W')
    (hBo : ∀ xs W e a' W', BP xs W e a' W' → e = .normal ∨ e = .ret ∨ ∃ id, e = .exit id)
    (hdone : ∀ (D : Nat) (xs : List α) (W : World), w.heap.size ≤ D → S xs → I xs W → W.heap[D]? = some (.deferred (some [])) → Q .normal { a with defers := { target := .collected D, args := #[] } :: a.defers } W)
    (hstop : ∀ (D : Nat) (c : Code) (pre : List α) (W : World), w.heap.size ≤ D → Sp pre → Ix c pre W → W.heap[D]? = some (.deferred (some [])) → c.wpIn F n P Q { a with defers := { target := .collected D, args := #[] } :: a.defers } W) :
    (Code.rangeFunc g ps assign body).wpIn F n P Q a w := by
  refine wpIn_rangeFunc fun fn hfn => ?_
  rw [hro]
  obtain ⟨rec0, hrec⟩ : ∃ r : Loop, r = { state := .ready, pending := none, fn := fn, tmps := a.tmps, params := ps, assign := assign, body := body, defers := w.heap.size } := ⟨_, rfl⟩
  have f0 : rec0.state = .ready := by rw [hrec]
  have f6 : rec0.pending = none := by rw [hrec]
  have f1 : rec0.params = ps := by rw [hrec]
  have f2 : rec0.tmps = a.tmps := by rw [hrec]
  have f3 : rec0.assign = assign := by rw [hrec]
  have f4 : rec0.body = body := by rw [hrec]
  have f5 : rec0.fn = fn := by rw [hrec]
  have f7 : { rec0 with state := .ready, pending := none } = rec0 := by rw [hrec]
  obtain ⟨W1, hW1⟩ : ∃ W1, W1 = (w.alloc (.deferred (some []))).alloc (.loop rec0) := ⟨_, rfl⟩
  have hB1 : Bk w.heap.size rec0 W1 := by rw [hW1]; exact Bk.made w rec0
  have hI1 : I [] W1 := by rw [hW1]; exact hI.alloc _ (hI.alloc _ h0)
  have hs1 : w.heap.size ≤ W1.heap.size := by rw [hW1]; simp; omega
  have hb1 : Below w0.heap.size w0 W1 := by
    rw [hW1]
    exact hb0.trans ((((Below.refl _ w).alloc (Nat.le_refl _) _).alloc (by simp) _).mono hb0.size)
  have cells : ∀ {A : World} {row : Option Nat}, (∀ q, row = some q → W1.heap.size ≤ q ∧ ∃ o : Obj, A.heap[q]? = some o ∧ o.isWalk = true) → ∀ q, row = some q → w.heap.size ≤ q ∧ ∃ o : Obj, A.heap[q]? = some o ∧ o.isCells = false :=
    fun h q e => by obtain ⟨h1, o, ho, hw⟩ := h q e; exact ⟨by omega, o, ho, Obj.not_cells_of_walk hw⟩
  have call := hseq (w.heap.size + 1) (fun pre W => I pre W ∧ Bk w.heap.size rec0 W) (fun pre W => ∃ c, Ix c pre W ∧ Bk w.heap.size { rec0 with state := .done, pending := some c } W) W1 hb1
    (fun s A B row hs hgr hr => ⟨hI s A B row hs.1 hgr (cells hr), hs.2.grown hgr fun q e => (hr q e).2⟩)
    (fun s A B row hs hgr hr => by
      obtain ⟨c, hc, hk⟩ := hs
      exact ⟨c, hIx c s A B row hc hgr (cells hr), hk.grown hgr fun q e => (hr q e).2⟩)
    (fun pre W h => hIZ pre W h.1)
    (fun pre x W ⟨hi, hk⟩ hy hlen => by
      refine bk_roundA (Aa := fun a' W1 => A pre x a' W1 ∧ KeepsOthers W W1 ∧ Kp W W1) (Q := fun W1 => BP (pre ++ [x]) (W1.putObj (w.heap.size + 1) (.loop { rec0 with state := .busy }))) f1 f2 f3 f4 f5 hk f0 hfn (hps x) (fun a' W1 h => h.2.1)
        (fun K hK => hassign _ pre x W K hi hy hlen fun a' W1 q1 q2 q3 => hK a' W1 ⟨q1, q2, q3⟩) (fun a' W1 ⟨q1, q2, q3⟩ => hbody _ pre x a' _ (hAp _ _ _ _ _ _ _ (Nat.le_succ _) q1 (hk.others q2).1 rfl) hlen) ?_ ?_ ?_ (fun W1 e a' W' h => hBo _ _ _ _ _ h)
      · rintro a₁ W2 a' W' ⟨q1, q2, q3⟩ h
        obtain ⟨h3, h4, h5⟩ := hBn _ _ _ _ h
        have hk2 := hk.others q2
        have hb2 := hk2.put { rec0 with state := .busy }
        have hb3 := hb2.others h3
        rw [f7]
        have hbusy : Kp W2 (W2.putObj (w.heap.size + 1) (.loop { rec0 with state := .busy })) := hKb _ _ _ _ (by omega) hk2.1 rfl rfl
        exact ⟨h3, .inl ⟨rfl, ⟨hI.putObj _ h5 (Nat.le_succ _) hb3.1 rfl, hb3.put _⟩, hKt (hKt (hKt q3 hbusy) h4) (hKb _ _ _ _ (by omega) hb3.1 rfl rfl)⟩⟩
      · rintro a₁ W2 a' W' ⟨q1, q2, q3⟩ h
        obtain ⟨h3, h5⟩ := hBr _ _ _ _ h
        have hb3 := ((hk.others q2).put { rec0 with state := .busy }).others h3
        exact ⟨h3, .inr ⟨rfl, .ret, (hIx _).putObj _ h5 (Nat.le_succ _) hb3.1 rfl, hb3.put _⟩⟩
      · rintro id a₁ W2 a' W' ⟨q1, q2, q3⟩ h
        obtain ⟨h3, h5⟩ := hBe _ _ _ _ _ h
        have hb3 := ((hk.others q2).put { rec0 with state := .busy }).others h3
        exact ⟨h3, .inr ⟨rfl, .exit id, (hIx _).putObj _ h5 (Nat.le_succ _) hb3.1 rfl, hb3.put _⟩⟩)
    ⟨hI1, hB1⟩
  refine ⟨w.heap.size + 1, [{ target := .collected w.heap.size, args := #[] }], W1, { target := .fn (.func gf) lb, args := #[.func (.yield (w.heap.size + 1)) #[] #[]] }, W1, gf,
    #[.func (.yield (w.heap.size + 1)) #[] #[]] ++ lb, W1, ?_, ?_, ?_, ?_, fun _ => h1, ?_⟩
  · rw [hW1, hrec]; exact run_enterLoop_outer _ _ _ _ _
  · simp only [resolve, hg]
    simp [go_sem]
  · intro f' hf'
    simp [Target.leads] at hf'
    subst hf'
    exact hFg
  · simp [invoke, go_sem, eg]
  · refine call.mono ?_
    rintro e W2 ⟨⟨v, rfl⟩, ⟨xs, hS, hi, hk⟩ | ⟨pre, hSp, c, hc, hk⟩⟩
    · refine ⟨_, _, run_endLoop hk.1 (by rw [f0]; simp), ?_⟩
      rw [f6]
      exact hdone _ xs _ (Nat.le_refl _) hS (hI.putObj _ hi (Nat.le_succ _) hk.1 rfl) (hk.put _).2
    · refine ⟨_, _, run_endLoop hk.1 (by simp), ?_⟩
      exact hstop _ c pre _ (Nat.le_refl _) hSp ((hIx c).putObj _ hc (Nat.le_succ _) hk.1 rfl) (hk.put _).2
end Go.Proofs.Ytmikemijdglgaaa
/- log.Clean, plain and its parts: what it writes, slot by slot; bytes.Equal; the iterator over slots of a disk that turns as the loop goes. -/
namespace Go.Proofs.Ytmikemijdglgaaa
open Go.RowKit
set_option linter.unusedVariables false
set_option linter.unusedSimpArgs false

open Go.Shelf
attribute [local go_sem] Oper.semAt_some
theorem equal_any (A B : Option Addr) (n m c d : Nat) (F G : Nat → Nat) (w : World) (h : Bytes w A n F) (k : Bytes w B m G) :
    Calls Try.prog 51 #[.slice A n c, .slice B m d] w fun e w' => e = .returned (.bool ((strF F n).toList == (strF G m).toList)) ∧ w = w' := by
  have q1 := conv_any c h
  have q2 := conv_any d k
  go_enter Try.func51, Try.ntmps51
  go_wp2
  go_ret
  exact ⟨rfl, rfl⟩
/-- Is a slot written over? -/
def dirtyB (S : DS) (first i : Nat) : Bool := decide (epochN (S.now (first + i)) (S.size - 20) i = 0) && !((strF (S.now (first + i)) S.size).toList == (strF (fun _ => 0) S.size).toList)
/-- What is left behind k slots, and what the k-th one's write tells. -/
def clS (S : DS) (first : Nat) : Nat → DS
  | 0 => S
  | k + 1 => if dirtyB S first k = true then putS (clS S first k) ((first + k : Nat) : Int) S.size (fun _ => 0) else clS S first k
def clI (S : DS) (first k : Nat) : Int := if dirtyB S first k = true then putI (clS S first k) ((first + k : Nat) : Int) S.size (fun _ => 0) else 0
theorem clS_size (S : DS) (first : Nat) : ∀ k, (clS S first k).size = S.size
  | 0 => rfl
  | k + 1 => by
    unfold clS
    split
    · exact (putS_sz _ _ _ _).trans (clS_size S first k)
    · exact clS_size S first k
theorem clS_N (S : DS) (first : Nat) : ∀ k, (clS S first k).N = S.N
  | 0 => rfl
  | k + 1 => by
    unfold clS
    split
    · exact (putS_N _ _ _ _).trans (clS_N S first k)
    · exact clS_N S first k
theorem clS_len (S : DS) (first : Nat) : ∀ k, (clS S first k).loose.length ≤ S.loose.length + k
  | 0 => Nat.le_refl _
  | k + 1 => by
    have := clS_len S first k
    unfold clS
    split
    · have := putS_len (clS S first k) ((first + k : Nat) : Int) S.size (fun _ => 0)
      omega
    · omega
theorem putS_now (S : DS) (a n : Nat) (F : Nat → Nat) (j : Nat) (h : j ≠ a) : (putS S ((a : Nat) : Int) n F).now j = S.now j := by
  unfold putS
  split
  · rfl
  · rw [strikeS_now]
    show upd S.now _ F j = _
    unfold upd
    rw [if_neg (by simpa using h)]
theorem putS_own (S : DS) (a : Nat) (F : Nat → Nat) (h1 : S.down = false) (h2 : a < S.N) : (putS S ((a : Nat) : Int) S.size F).now a = F := by
  have h0 : reachI S ((a : Nat) : Int) = 0 := by
    unfold reachI
    rw [h1, if_neg (by simp), if_neg (by omega)]
  unfold putS
  rw [if_neg (fun q => q.elim (fun z => z h0) fun z => z rfl), strikeS_now]
  show upd S.now _ F a = _
  unfold upd
  exact if_pos (by simp)
theorem clS_now (S : DS) (first k : Nat) : ∀ j, first + k ≤ j → (clS S first k).now j = S.now j := by
  induction k with
  | zero => exact fun _ _ => rfl
  | succ k ih =>
    intro j h
    unfold clS
    split
    · exact (putS_now _ _ _ _ _ (by omega)).trans (ih j (by omega))
    · exact ih j (by omega)
theorem strike_up {S : DS} (h : strikeI S = 0) (hd : S.down = false) : (strikeS S).down = false := by
  unfold strikeI at h
  unfold strikeS
  split
  · exact hd
  · split
    · rename_i h1; rw [if_pos h1] at h; cases h
    · exact hd
theorem putS_up {S : DS} {a : Int} {n : Nat} {F : Nat → Nat} (h : putI S a n F = 0) (hd : S.down = false) : (putS S a n F).down = false := by
  unfold putI at h
  unfold putS
  split
  · exact hd
  · rename_i h1
    have h2 : ¬ reachI S a ≠ 0 := fun e => h1 (.inl e)
    have h3 : ¬ n ≠ S.size := fun e => h1 (.inr e)
    rw [if_neg h2, if_neg h3] at h
    exact strike_up h hd
theorem clS_up {S : DS} {first : Nat} (hd : S.down = false) : ∀ k, (∀ j, j < k → clI S first j = 0) → (clS S first k).down = false
  | 0, _ => hd
  | k + 1, h => by
    have h1 := clS_up hd k (fun j hj => h j (by omega))
    have h2 := h k (by omega)
    unfold clI at h2
    unfold clS
    split
    · rename_i hb
      rw [if_pos hb] at h2
      exact putS_up h2 h1
    · exact h1
/-- The disk, as the loop needs it for the slots to come. -/
def ZD [Spare] (base first count : Nat) (M : DM) (S : DS) (pre : List (Nat × Nat)) (W : World) : Prop :=
  ∃ (v : Value) (S' : DS), Dsk W base { M with vl := v } S' ∧ S'.down = false ∧ S'.size = S.size ∧ S'.N = S.N ∧ ∀ j, first + pre.length ≤ j → S'.now j = S.now j
/-- What a round that goes on keeps. -/
def KpZ (n₀ Bs : Nat) (A B : World) : Prop := A.heap.size ≤ B.heap.size ∧ B.heap[Bs]? = A.heap[Bs]?
theorem KpZ.t {n₀ Bs : Nat} {A B C : World} (h : KpZ n₀ Bs A B) (k : KpZ n₀ Bs B C) : KpZ n₀ Bs A C := ⟨Nat.le_trans h.1 k.1, k.2.trans h.2⟩
theorem KpZ.refl (n₀ Bs : Nat) (W : World) : KpZ n₀ Bs W W := ⟨Nat.le_refl _, rfl⟩
theorem KpZ.b {n₀ Bs : Nat} {w : World} (hb : Bs < w.heap.size) (W : World) (l : Nat) (o o' : Obj) (hl : w.heap.size ≤ l) (h : W.heap[l]? = some o) (h1 : o.isCells = false) (h2 : o.isWalk = false) : KpZ n₀ Bs W (W.putObj l o') :=
  ⟨(grownBy_putObj' W l o').size, (grownBy_putObj' W l o').block Bs (by have := (Array.getElem?_eq_some_iff.1 h).1; omega) (fun e => by cases e; omega)⟩
theorem KpZ.below {n₀ Bs : Nat} {A B : World} (h : Below A.heap.size A B) (hb : Bs < A.heap.size) : KpZ n₀ Bs A B := ⟨h.size, h.block Bs hb⟩
set_option maxRecDepth 100000 in
set_option maxHeartbeats 4000000 in
theorem slots1_inZ [Spare] (n : Nat) (hn : 2 ≤ n) (l Bs base first count : Nat) (M : DM) (S : DS) (n₀ : Nat) (hSz : 64 ≤ S.size ∧ S.size ≤ 4096) (hN : S.N ≤ 1048576) (hfc : first + count ≤ S.N) (J Jx : List (Nat × Nat) → World → Prop) (W : World) (hJ : AbidesFrom W.heap.size J) (hZ : ∀ pre W1, J pre W1 → ZD base first count M S pre W1)
    (hY : ∀ pre x W1, J pre W1 → (SlY S first count n₀ x W1 ∧ x.1 = pre.length) → pre.length < count → YieldAt Fence.wide (n - 1) Try.prog l (encS S.size x) W1 fun e W' =>
      (e = .returned (.bool true) ∧ J (pre ++ [x]) W' ∧ KpZ n₀ Bs W1 W') ∨ (e = .returned (.bool false) ∧ Jx (pre ++ [x]) W'))
    (hn0 : n₀ ≤ W.heap.size) (hBsl : Bs < W.heap.size) (hBs : W.heap[Bs]? = some (.cells #[.pointer (some ⟨M.p, 0, none⟩), .int .i64 (first : Nat), .int .i64 (count : Nat)] 80)) (h0 : J [] W) :
    CallsIn Fence.wide n Try.prog 57 #[.func (.yield l) #[] #[], .pointer (some ⟨Bs, 0, none⟩)] W fun e W' => (∃ v, e = .returned v) ∧
      ((∃ xs, xs.map Prod.fst = List.range count ∧ J xs W') ∨ (∃ pre, (pre.map Prod.fst = List.range pre.length ∧ pre.length ≤ count) ∧ Jx pre W')) := by
  refine callsIn_of_wp Try.func57 rfl trivial ?_ rfl
  simp only [Try.ntmps57, List.size_toArray, List.length_cons, List.length_nil, Nat.reduceAdd, Nat.reduceSub, Array.replicate_succ, Array.replicate_zero, List.push_toArray, List.append_toArray, List.nil_append, List.cons_append]
  have HZ := Lib.hid hZ
  have HY := Lib.hid hY
  have HJ := Lib.hid hJ
  have H0 := Lib.hid h0
  have cz : W.cell? ⟨Bs, 2, none⟩ = some (.int .i64 (count : Nat)) := by simpa using cell_of_row W Bs 2 _ _ _ hBs
  have HBs := Lib.hid hBs
  have hn1 : 1 ≤ n := by omega
  clear hZ hY hJ h0 hBs
  gi_wp2
  gi_loopw [8] (fun i wr => ∃ (k : Nat) (pre : List (Nat × Nat)), k ≤ count ∧ i = .int .i64 (k : Nat) ∧ pre.map Prod.fst = List.range k ∧ J pre wr ∧ KpZ n₀ Bs W wr)
    (fun i _ => count - (intOf i).toNat)
  case atStart => exact ⟨0, [], Nat.zero_le _, rfl, rfl, H0.out, KpZ.refl _ _ _⟩
  case round =>
    obtain ⟨k, pre, hk, rfl, hpre, hJs, hkp⟩ := hrel
    obtain ⟨wo, hwo⟩ : ∃ wo, wo = wr := ⟨_, rfl⟩
    subst hwo
    have HJs := Lib.hid hJs
    have HK := Lib.hid hkp
    have HPre := Lib.hid hpre
    have hBs2 : wo.heap[Bs]? = _ := hkp.2.trans HBs.out
    have cp : wo.cell? ⟨Bs, 0, none⟩ = some (.pointer (some ⟨M.p, 0, none⟩)) := by simpa using cell_of_row wo Bs 0 _ _ _ hBs2
    have cf : wo.cell? ⟨Bs, 1, none⟩ = some (.int .i64 (first : Nat)) := by simpa using cell_of_row wo Bs 1 _ _ _ hBs2
    clear hJs hkp hpre hBs2
    by_cases hlt : k < count
    · obtain ⟨v, S', dD, dup, dsz, dN, dnow⟩ := HZ.out _ _ HJs.out
      have hrd := readDisk_ok (first + k) wo base { M with vl := v } S' dD (by rw [dN]; omega) dup
      have hsum : IntKind.i64.wrap ((first : Int) + (k : Int)) = ((first + k : Nat) : Int) := by rw [IntWalk.i64_in _ (by omega)]; rfl
      rw [Int.natCast_add, dsz, dnow (first + k) (by rw [fst_len HPre.out]; omega)] at hrd
      have HRd := Lib.hid (show Calls Try.prog 18 #[.pointer (some ⟨M.p, 0, none⟩), .int .i64 ((first : Int) + (k : Int))] wo _ from hrd)
      clear hrd dD dup dsz dN dnow
      gi_wp2
      refine ⟨trivial, (callsIn_wide.2 HRd.out).mono ?_⟩
      rintro e W2 ⟨rfl, hrow, l2⟩
      obtain ⟨g, hg⟩ : ∃ g, g = wo.heap.size := ⟨_, rfl⟩
      have hJ2 := HJ.out _ _ _ none HJs.out (grown_below (r := none) l2) (by simp)
      have hgn : n₀ ≤ wo.heap.size := Nat.le_trans hn0 HK.out.1
      obtain ⟨fn, tmps, assign, body, hy, hRr⟩ := HY.out pre (k, g) W2 hJ2 ⟨⟨by rw [hg]; exact hrow, by rw [hg]; exact hgn, hlt⟩, (fst_len HPre.out).symm⟩ (by rw [fst_len HPre.out]; exact hlt)
      have HR := Lib.hid hRr
      have HKa := Lib.hid (HK.out.t (KpZ.below l2 (by have := (Array.getElem?_eq_some_iff.1 (HK.out.2.trans HBs.out)).1; exact this)))
      have hs2 := l2.size
      rw [← hg]
      have HPre2 := Lib.hid (fst_snoc (g := g) HPre.out)
      clear hrow l2 hJ2 hRr hg
      gi_wp2
      refine HR.out.mono ?_
      rintro e W3 (⟨rfl, hJ3, hk3⟩ | ⟨rfl, hJx3⟩)
      · have HJ3 := Lib.hid (And.intro hJ3 hk3)
        have hs3 := hk3.1
        clear hJ3 hk3 hy
        gi_wp2
        exact ⟨⟨k + 1, pre ++ [(k, g)], by omega, by go_num, HPre2.out, HJ3.out.1, HKa.out.t HJ3.out.2⟩, by simp [intOf]; omega⟩
      · have HJX := Lib.hid hJx3
        clear hJx3 hy
        gi_wp2
        refine bodyPost_ret (results_none rfl _ _ _) rfl ?_
        exact ⟨⟨_, rfl⟩, .inr ⟨_, ⟨by rw [fst_len HPre2.out]; exact HPre2.out, by rw [fst_len HPre2.out]; omega⟩, HJX.out⟩⟩
    · obtain rfl : k = count := by omega
      gi_wp2
      go_end0
      exact ⟨⟨_, rfl⟩, .inl ⟨_, HPre.out, HJs.out⟩⟩
/-- The iterator over a log's slots, of a disk that the loop turns. -/
theorem slots_seqZ [Spare] (n : Nat) (hn : 2 ≤ n) (Bs base first count : Nat) (M : DM) (S : DS) (n₀ : Nat) (hSz : 64 ≤ S.size ∧ S.size ≤ 4096) (hN : S.N ≤ 1048576) (hfc : first + count ≤ S.N) (w : World) (hn0 : n₀ ≤ w.heap.size)
    (hBs : w.heap[Bs]? = some (.cells #[.pointer (some ⟨M.p, 0, none⟩), .int .i64 (first : Nat), .int .i64 (count : Nat)] 80)) :
    SeqMemZ Fence.wide n Try.prog 57 #[.pointer (some ⟨Bs, 0, none⟩)] (encS S.size) (fun pre x W => SlY S first count n₀ x W ∧ x.1 = pre.length) (KpZ n₀ Bs) (fun xs => xs.map Prod.fst = List.range count) (fun pre => pre.map Prod.fst = List.range pre.length ∧ pre.length ≤ count) count (ZD base first count M S) w := fun l J Jx W hW hJ _ hZ hY h0 =>
  slots1_inZ n hn l Bs base first count M S n₀ hSz hN hfc J Jx W hJ hZ hY (Nat.le_trans hn0 hW.size) (Nat.lt_of_lt_of_le (Array.getElem?_eq_some_iff.1 hBs).1 hW.size) ((hW.block Bs (Array.getElem?_eq_some_iff.1 hBs).1).trans hBs) h0
/-- A block that is none of loose writes is not theirs. -/
theorem Dsk.ownOff [Spare] {w : World} {base k : Nat} {M : DM} {S : DS} {cs : Array Value} {t : TypeId} (h : Dsk w base M S) (hk : w.heap[k]? = some (.cells cs t (0, 0))) (ht : t ≠ 111) : M.vl.ownBlock ≠ some k := by
  obtain ⟨vs, _, l2, _⟩ := h.lo
  intro e
  rcases l2.2 with ⟨hv, _⟩ | ⟨g, cap, cur, hv, _, hh, _⟩
  · rw [hv] at e; cases e
  · rw [hv] at e
    simp only [Value.ownBlock, Option.some.injEq] at e
    subst e
    rw [hh] at hk
    injection hk with hk
    injection hk with _ hk
    exact ht hk.symm
theorem cells_same {W W' : World} {row : Option Nat} {k : Nat} {cs : Array Value} {t : TypeId} {f : Nat × Nat} (hg : W.grownBy W' row) (hr : ∀ r, row = some r → ∃ o : Obj, W.heap[r]? = some o ∧ o.isCells = false) (h : W.heap[k]? = some (.cells cs t f)) : W'.heap[k]? = W.heap[k]? :=
  hg.block k (Array.getElem?_eq_some_iff.1 h).1 fun e => by
    obtain ⟨o, ho, hc⟩ := hr k e.symm
    rw [h] at ho; cases ho; cases hc
theorem Dsk.other [Spare] {W W' : World} {row : Option Nat} {base : Nat} {M : DM} {S : DS} (h : Dsk W base M S) (hg : W.grownBy W' row) (hr : ∀ r, row = some r → ∃ o : Obj, W.heap[r]? = some o ∧ o.isCells = false) : Dsk W' base M S := by
  obtain ⟨V, ⟨c, cv, _⟩, _⟩ := id h.vf
  obtain ⟨U, ⟨c', cu, _⟩, _⟩ := id h.vn
  obtain ⟨vs, _, l2, _⟩ := id h.lo
  refine h.keep (cells_same hg hr h.hp) (cells_same hg hr cv) (cells_same hg hr cu) (fun k hk => ?_) (fun g cs _ hc => (cells_same hg hr hc).trans hc) hg.size
  rcases l2.2 with ⟨hv, _⟩ | ⟨g, cap, cur, hv, _, hh, _⟩
  · rw [hv] at hk; cases hk
  · rw [hv] at hk
    simp only [Value.ownBlock, Option.some.injEq] at hk
    subst hk
    exact cells_same hg hr hh
theorem Left.other [Spare] {w W W' : World} {row : Option Nat} {base : Nat} {M : DM} {S' : DS} (h : Left S' base M w W) (hg : W.grownBy W' row) (hr : ∀ r, row = some r → w.heap.size ≤ r ∧ ∃ o : Obj, W.heap[r]? = some o ∧ o.isCells = false) : Left S' base M w W' := by
  obtain ⟨v', d, t, kb, ow⟩ := h
  have hr2 : ∀ r, row = some r → ∃ o : Obj, W.heap[r]? = some o ∧ o.isCells = false := fun r e => (hr r e).2
  exact ⟨v', d.other hg hr2, ⟨hg.os.trans t.os, hg.tape.trans t.tape, hg.output.trans t.output, Nat.le_trans t.size hg.size, fun k hk a1 a2 a3 a4 => (hg.block k (Nat.lt_of_lt_of_le hk t.size) (fun e => by have := (hr k e.symm).1; omega)).trans (t.block k hk a1 a2 a3 a4)⟩,
    fun g cs hb hc => (cells_same hg hr2 (kb g cs hb hc)).trans (kb g cs hb hc), ow⟩
theorem Left.store [Spare] {w W : World} {base B : Nat} {M : DM} {S S' : DS} {t : TypeId} {u : Value} (hD : Dsk w base M S) (h : Left S' base M w W) (hb : Boxed W B t u) (hB : w.heap.size ≤ B) (h1 : t ≠ 5) (h2 : t ≠ 111) (v : Value) : Left S' base M w (W.setCell ⟨B, 0, none⟩ v) := by
  obtain ⟨v', d, t', kb, ow⟩ := h
  obtain ⟨a1, a2, a3, _⟩ := hD.away B (.inr hB)
  have off : ∀ k, k ≠ B → (W.setCell ⟨B, 0, none⟩ v).heap[k]? = W.heap[k]? := fun k hk => Below.heap_setCell _ _ _ _ hk
  have ks : KeepB base W (W.setCell ⟨B, 0, none⟩ v) := keepB_store hb h1
  refine ⟨v', d.keep (off _ (Ne.symm a1)) (off _ (Ne.symm a2)) (off _ (Ne.symm a3)) (fun k hk => off k (fun e => d.ownOff hb h2 (e ▸ hk))) ks (by rw [size_set]; exact Nat.le_refl _), ⟨t'.os, t'.tape, t'.output, by rw [size_set]; exact t'.size, fun k hk b1 b2 b3 b4 => (off k (by omega)).trans (t'.block k hk b1 b2 b3 b4)⟩, kb.trans ks, ow⟩
theorem Turns.others [Spare] {W W' : World} {base : Nat} {M : DM} {S : DS} (d : Dsk W base M S) (t : Turns base M W W') : KeepsOthers W W' := by
  obtain ⟨V, ⟨c, cv, _⟩, _⟩ := id d.vf
  obtain ⟨U, ⟨c', cu, _⟩, _⟩ := id d.vn
  obtain ⟨vs, _, l2, _⟩ := id d.lo
  refine ⟨t.size, fun k o hk ho => (t.block k (Array.getElem?_eq_some_iff.1 hk).1 ?_ ?_ ?_ ?_).trans hk⟩
  · rintro rfl; rw [d.hp] at hk; cases hk; cases ho
  · rintro rfl; rw [cv] at hk; cases hk; cases ho
  · rintro rfl; rw [cu] at hk; cases hk; cases ho
  · intro e
    rcases l2.2 with ⟨hv, _⟩ | ⟨g, cap, cur, hv, _, hh, _⟩
    · rw [hv] at e; cases e
    · rw [hv] at e
      simp only [Value.ownBlock, Option.some.injEq] at e
      subst e
      rw [hh] at hk; cases hk; cases ho
/-- What stands while Clean runs. -/
abbrev plCells (M : DM) (first count : Nat) : Array Value := #[.pointer (some ⟨M.p, 0, none⟩), .int .i64 (first : Nat), .int .i64 (count : Nat)]
structure ClFix (n0 q0 : Nat) (M : DM) (S : DS) (first count : Nat) (W : World) : Prop where
  d : Boxed W n0 26 (.pointer (some ⟨M.p, 0, none⟩))
  r : Boxed W (n0 + 1) 29 (.int .i64 0)
  p : W.heap[q0]? = some (.cells (plCells M first count) 80 (0, 0))
  z : BRow W (q0 + 1) S.size (fun _ => 0)
  b : Boxed W (q0 + 1 + 1) 42 (.slice (some ⟨q0 + 1, 0, none⟩) S.size S.size)
  s : W.heap[q0 + 1 + 1 + 1]? = some (.cells (plCells M first count) 80 (0, 0))
theorem ClFix.own {β : Type} {B n0 q0 first count : Nat} {M : DM} {S : DS} : OwnFrom B (fun (_ : β) W => ClFix n0 q0 M S first count W) := fun x A C row hs hg hr =>
  ⟨fixed_own (B := B) x A C row hs.d hg hr, fixed_own (B := B) x A C row hs.r hg hr, fixed_own (B := B) x A C row hs.p hg hr, hs.z.other hg (fun e => by
    obtain ⟨_, o, ho, hc⟩ := hr _ e.symm
    obtain ⟨c, hb, _⟩ := hs.z.1
    rw [hb] at ho; cases ho; cases hc), fixed_own (B := B) x A C row hs.b hg hr, fixed_own (B := B) x A C row hs.s hg hr⟩
theorem ClFix.turns [Spare] {w W W' : World} {base n0 q0 first count : Nat} {M : DM} {S S1 : DS} {v : Value} (h : ClFix n0 q0 M S first count W) (hD : Dsk w base M S) (hn : w.heap.size ≤ n0) (hq : w.heap.size ≤ q0) (d : Dsk W base { M with vl := v } S1) (t : Turns base { M with vl := v } W W') : ClFix n0 q0 M S first count W' := by
  have k : ∀ {g : Nat} {cs : Array Value} {ty : TypeId}, w.heap.size ≤ g → ty ≠ 111 → W.heap[g]? = some (.cells cs ty (0, 0)) → W'.heap[g]? = W.heap[g]? := fun {g cs ty} hg ht hc => by
    obtain ⟨a1, a2, a3, _⟩ := hD.away g (.inr hg)
    exact t.block g (Array.getElem?_eq_some_iff.1 hc).1 a1 a2 a3 (d.ownOff hc ht)
  obtain ⟨c, hc, _⟩ := id h.z.1
  exact ⟨(k hn (by decide) h.d).trans h.d, (k (by omega) (by decide) h.r).trans h.r, (k hq (by decide) h.p).trans h.p, h.z.of_block (k (by omega) (by decide) hc), (k (by omega) (by decide) h.b).trans h.b, (k (by omega) (by decide) h.s).trans h.s⟩
theorem ClFix.size {n0 q0 first count : Nat} {M : DM} {S : DS} {W : World} (h : ClFix n0 q0 M S first count W) : q0 + 4 ≤ W.heap.size := by
  have := (Array.getElem?_eq_some_iff.1 h.s).1
  omega
/-- The loop's invariant: behind a row of slots. -/
def ClI [Spare] (w : World) (base n0 q0 first count : Nat) (M : DM) (S : DS) (pre : List (Nat × Nat)) (W : World) : Prop :=
  ((∀ j, j < pre.length → clI S first j = 0) ∧ Left (clS S first pre.length) base M w W) ∧ ClFix n0 q0 M S first count W
/-- Where a write could not be done. -/
def ClX [Spare] (w : World) (base n0 first : Nat) (M : DM) (S : DS) (xs : List (Nat × Nat)) (W : World) : Prop :=
  ∃ k, xs.length = k + 1 ∧ (∀ j, j < k → clI S first j = 0) ∧ clI S first k ≠ 0 ∧ Left (clS S first (k + 1)) base M w W ∧ Boxed W (n0 + 1) 29 (.int .i64 (clI S first k))
theorem ClI.own [Spare] {w : World} {B base n0 q0 first count : Nat} {M : DM} {S : DS} (hB : w.heap.size ≤ B) : OwnFrom B (ClI w base n0 q0 first count M S) := fun x A C row hs hg hr =>
  ⟨⟨hs.1.1, hs.1.2.other hg fun r e => ⟨Nat.le_trans hB (hr r e).1, (hr r e).2⟩⟩, ClFix.own (B := B) x A C row hs.2 hg hr⟩
theorem ClX.own [Spare] {w : World} {B base n0 first : Nat} {M : DM} {S : DS} (hB : w.heap.size ≤ B) : OwnFrom B (ClX w base n0 first M S) := fun x A C row hs hg hr => by
  obtain ⟨k, h1, h2, h3, h4, h5⟩ := hs
  exact ⟨k, h1, h2, h3, h4.other hg (fun r e => ⟨Nat.le_trans hB (hr r e).1, (hr r e).2⟩), fixed_own (B := B) x A C row h5 hg hr⟩
theorem ClI.zd [Spare] {w W : World} {base n0 q0 first count : Nat} {M : DM} {S : DS} {pre : List (Nat × Nat)} (hup : S.down = false) (h : ClI w base n0 q0 first count M S pre W) : ZD base first count M S pre W := by
  obtain ⟨⟨h1, v, d, _⟩, _⟩ := h
  exact ⟨v, _, d, clS_up hup _ h1, clS_size S first _, clS_N S first _, fun j hj => clS_now S first _ j hj⟩
end Go.Proofs.Ytmikemijdglgaaa
/- log.Clean, of a disk that is up. -/
namespace Go.Proofs.Ytmikemijdglgaaa
open Go.RowKit
set_option linter.unusedVariables false
set_option linter.unusedSimpArgs false

open Go.Shelf
attribute [local go_sem] Oper.semAt_some
/-- What Clean tells and leaves. -/
def CleanP [Spare] (first count base : Nat) (M : DM) (S : DS) (w : World) (e : Ending) (w' : World) : Prop :=
  (∃ k, k < count ∧ (∀ j, j < k → clI S first j = 0) ∧ clI S first k ≠ 0 ∧ e = .returned (.int .i64 (clI S first k)) ∧ Left (clS S first (k + 1)) base M w w') ∨
    (∀ j, j < count → clI S first j = 0) ∧ e = .returned (.int .i64 (flushI (clS S first count))) ∧ Left (flushD (clS S first count)) base M w w'
set_option maxRecDepth 100000 in
set_option maxHeartbeats 16000000 in
theorem clean_any [Spare] (base first count : Nat) (M : DM) (S : DS) (w : World) (hD : Dsk w base M S) (hbase : base ≤ w.heap.size) (hup : S.down = false) (hpl : plB S.N first count) (hL : S.loose.length + count < 1000000) :
    Calls Try.prog 27 #[.pointer (some ⟨M.p, 0, none⟩), .int .i64 first, .int .i64 count] w (CleanP first count base M S w) := by
  have hN := hD.hN.2
  have hS := hD.hS
  obtain ⟨p0, p1, p2, p3⟩ := hpl
  have hfc : first + count ≤ S.N := by omega
  obtain ⟨n0, hn0⟩ : ∃ n0, n0 = w.heap.size := ⟨_, rfl⟩
  obtain ⟨B0, hB0⟩ : ∃ B0 : World, B0 = (w.alloc (.cells #[.pointer (some ⟨M.p, 0, none⟩)] 26)).alloc (.cells #[.int .i64 0] 29) := ⟨_, rfl⟩
  have hb0 : Below n0 w B0 := by
    subst hB0 hn0
    exact ((Below.refl _ _).alloc (Nat.le_refl _) _).alloc (by simp) _
  have hs0 : B0.heap.size = n0 + 2 := by subst hB0 hn0; simp
  have e1 : Boxed B0 n0 26 (.pointer (some ⟨M.p, 0, none⟩)) := by subst hB0 hn0; exact (Boxed.new _ _ _).alloc _
  have e2 : Boxed B0 (n0 + 1) 29 (.int .i64 0) := by subst hB0 hn0; exact boxed_at (by simp) _ _
  have KP1 := Lib.hid ((placeOf_any first count B0 base M S (hD.below (hn0 ▸ hb0)) (by omega) (by omega) (by omega)).mono (R' := fun e w' => e = .returned (.tuple #[.agg #[.pointer (some ⟨M.p, 0, none⟩), .int .i64 (first : Nat), .int .i64 (count : Nat)], .int .i64 0]) ∧ Below B0.heap.size B0 w') (fun e w' h => by
    obtain ⟨⟨_, h1⟩ | ⟨h0, _⟩, h2⟩ := h
    · exact ⟨h1, h2⟩
    · exact absurd ⟨p0, p1, p2, p3⟩ h0))
  have HD := Lib.hid hD
  have HB0 := Lib.hid hb0
  have HBe := Lib.hid hB0
  have E := Lib.hid (And.intro e1 e2)
  have HN0 := Lib.hid hn0
  have hmk := run_make_row' (P := Try.prog) 42 5 (.int .u8 0) 1 Try.underlying42 u8info rfl .i64 .i64 S.size (by omega) (by omega)
  have c00 := e1.cell
  have HC0 := Lib.hid c00
  clear hD hb0 e1 e2 c00
  refine (callsIn_wide (n := 8)).1 ?_
  refine callsIn_of_wp_marks Try.func27 rfl trivial ?_ rfl
  simp only [Try.ntmps27, List.size_toArray, List.length_cons, List.length_nil, Nat.reduceAdd, Nat.reduceSub, Array.replicate_succ, Array.replicate_zero, List.push_toArray, List.append_toArray, List.nil_append, List.cons_append]
  clear hn0 hB0
  gi_upto_region 1 with (fail)
  rw [← HBe.out, ← HN0.out]
  have c00 := HC0.out
  gi_wp2_with (first
    | (refine ⟨trivial, ?_⟩; gi_at_call 34; refine CallsIn.mono (callsIn_wide.2 KP1.out) ?_; rintro _ w1 ⟨rfl, l1⟩; have L1 := Lib.hid l1; have hs1 := l1.size; have c01 := Boxed.cell (show Boxed w1 n0 26 (.pointer (some ⟨M.p, 0, none⟩)) from (l1.block n0 (by omega)).trans E.out.1); have hl1 : n0 < w1.heap.size := (by omega); have KS := Lib.hid (show ∀ W, Below w1.heap.size w1 W → Calls Try.prog 50 #[.pointer (some ⟨M.p, 0, none⟩)] W fun e w' => e = .returned (.int .i64 (S.size : Int)) ∧ W = w' from fun W l => size_any W base M S (HD.out.below ((HN0.out ▸ HB0.out).trans (L1.out.mono (HN0.out ▸ HB0.out).size |>.trans (l.mono (Nat.le_trans (HN0.out ▸ HB0.out).size l1.size)))))); clear l1 c00)
    | (refine ⟨trivial, ?_⟩; gi_at_call 50; refine CallsIn.mono (callsIn_wide.2 (KS.out _ ((Below.refl _ _).alloc (Nat.le_refl _) _))) ?_; rintro _ _ ⟨rfl, rfl⟩)
    | (refine ⟨trivial, ?_⟩; gi_at_call 36; refine CallsIn.mono (callsIn_wide.2 (slots_any _ _ _ _)) ?_; rintro _ _ ⟨rfl, rfl⟩))
  obtain ⟨q0, hq0⟩ : ∃ q0, q0 = w1.heap.size := ⟨_, rfl⟩
  obtain ⟨Wl, hWl⟩ : ∃ Wl : World, Wl = (((w1.alloc (.cells (plCells M first count) 80)).alloc (.cells (madeCells #[.int .u8 0] S.size) 5)).alloc (.cells #[.slice (some ⟨q0 + 1, 0, none⟩) S.size S.size] 42)).alloc (.cells (plCells M first count) 80) := ⟨_, rfl⟩
  have hsl : Wl.heap.size = q0 + 4 := by subst hWl hq0; simp
  have hbl1 : Below w1.heap.size w1 Wl := by
    subst hWl
    exact ((((Below.refl _ _).alloc (Nat.le_refl _) _).alloc (by simp) _).alloc (by simp; omega) _).alloc (by simp; omega) _
  have hblB : Below B0.heap.size B0 Wl := L1.out.trans (hbl1.mono L1.out.size)
  have hbl : Below n0 w Wl := HB0.out.trans (hblB.mono (by omega))
  have hnw := HN0.out
  have hn0q : n0 + 2 ≤ q0 := by omega
  have hfix : ClFix n0 q0 M S first count Wl := by
    refine ⟨(hblB.block n0 (by omega)).trans E.out.1, (hblB.block (n0 + 1) (by omega)).trans E.out.2, ?_, ?_, ?_, ?_⟩
    · subst hWl hq0
      exact (Below.heap_alloc _ _ _ (by simp; omega)).trans ((Below.heap_alloc _ _ _ (by simp; omega)).trans ((Below.heap_alloc _ _ _ (by simp)).trans (World.alloc_heap_new _ _)))
    · have h := ((BRow.made (w1.alloc (.cells (plCells M first count) 80)) S.size (by omega)).alloc (.cells #[.slice (some ⟨q0 + 1, 0, none⟩) S.size S.size] 42)).alloc (.cells (plCells M first count) 80)
      rw [World.size_alloc, ← hq0] at h
      rw [hWl]
      exact h
    · subst hWl hq0
      exact (boxed_at (by simp) _ _).alloc _
    · have := World.alloc_heap_new (((w1.alloc (.cells (plCells M first count) 80)).alloc (.cells (madeCells #[.int .u8 0] S.size) 5)).alloc (.cells #[.slice (some ⟨q0 + 1, 0, none⟩) S.size S.size] 42)) (.cells (plCells M first count) 80)
      rw [← hWl] at this
      simpa [← hq0] using this
  rw [← hq0]
  rw [← hWl]
  have HFix := Lib.hid hfix
  have HBl := Lib.hid hbl
  clear hWl hq0 hs1 hbl1 hl1 c01 hfix hbl hblB hmk
  have hCI0 : ClI w base n0 q0 first count M S [] Wl := ⟨⟨fun j hj => absurd hj (Nat.not_lt_zero _), Left.of_below HD.out (hnw ▸ HBl.out)⟩, HFix.out⟩
  refine SeqMemZ.loopA rfl (by omega) (gf := 57) (lb := #[.pointer (some ⟨q0 + 1 + 1 + 1, 0, none⟩)]) rfl trivial (enters_of Try.func57 (by kernel_rfl) rfl)
    (slots_seqZ (8 - 1) (by omega) (q0 + 1 + 1 + 1) base first count M S n0 hS hN hfc Wl (by omega) HFix.out.s) (fun h k => KpZ.t h k) (KpZ.b (by omega)) (Below.refl _ _) (fun _ => rfl)
    (ClI w base n0 q0 first count M S) (fun cd pre W => cd = .ret ∧ ClX w base n0 first M S pre W) (ClI.own (by omega)) (fun cd pre A C row hs hg hr => ⟨hs.1, ClX.own (B := Wl.heap.size) (by omega) pre A C row hs.2 hg hr⟩) hCI0 (fun pre W h => h.zd hup)
    (fun pre x a' W => ClI w base n0 q0 first count M S pre W ∧ (SlY S first count n0 x W ∧ x.1 = pre.length) ∧ ∃ B1, W.heap[B1]? = some (.cells #[.int .i64 (x.1 : Nat), .slice (some ⟨x.2, 0, none⟩) S.size S.size] 90 (0, 0)) ∧ a' = { tmps := #[Value.pointer (some ⟨M.p, 0, none⟩), .int .i64 (first : Nat), .int .i64 (count : Nat), .pointer (some ⟨n0, 0, none⟩), undef, undef, .pointer (some ⟨n0 + 1, 0, none⟩), .pointer (some ⟨q0, 0, none⟩), .int .i64 0, .pointer (some ⟨q0 + 1 + 1, 0, none⟩), .pointer (some ⟨B1, 0, none⟩), .int .i64 0, undef, undef, undef, .tuple #[.agg (plCells M first count), .int .i64 0], .pointer (some ⟨M.p, 0, none⟩), .int .i64 (first : Nat), .int .i64 (count : Nat), .tuple #[.agg (plCells M first count), .int .i64 0], .agg (plCells M first count), .int .i64 0, .int .i64 0, .bool false, undef, .pointer (some ⟨M.p, 0, none⟩), .int .i64 (S.size : Nat), .slice (some ⟨q0 + 1, 0, none⟩) S.size S.size, .agg (plCells M first count), .func (.func 57) #[] #[.pointer (some ⟨q0 + 1 + 1 + 1, 0, none⟩)], .agg #[.int .i64 (x.1 : Nat), .slice (some ⟨x.2, 0, none⟩) S.size S.size], .int .i64 0, undef, undef, undef, undef, undef, undef, undef, undef, undef, undef, undef, undef, undef, undef, undef, undef, undef, undef, undef, undef, undef, undef, undef, undef, undef, undef, undef, undef, undef], defers := [] })
    (fun pre x a' W1 l o o' hl hs ho hc => by
      obtain ⟨h1, h4, B1, h5, h6⟩ := hs
      exact ⟨(ClI.own (B := Wl.heap.size) (by omega)).putObj o' h1 hl ho hc, ⟨(slY_own (B := Wl.heap.size)).putObj o' h4.1 hl ho hc, h4.2⟩, B1, (fixed_own (B := Wl.heap.size)).putObj (s := ()) o' h5 hl ho hc, h6⟩)
    ?assign
    (fun xs W e a' W' => KeepsOthers W W' ∧ ((e = .normal ∧ KpZ n0 (q0 + 1 + 1 + 1) W W' ∧ ClI w base n0 q0 first count M S xs W') ∨ (e = .ret ∧ ClX w base n0 first M S xs W')))
    ?body
    (fun xs W a' W' h => by
      obtain ⟨h0, ⟨_, h1, h2⟩ | ⟨h, _⟩⟩ := h
      · exact ⟨h0, h1, h2⟩
      · cases h)
    (fun xs W a' W' h => by
      obtain ⟨h0, ⟨h, _⟩ | ⟨_, h⟩⟩ := h
      · cases h
      · exact ⟨h0, rfl, h⟩)
    (fun xs W id a' W' h => by
      obtain ⟨h0, ⟨h, _⟩ | ⟨h, _⟩⟩ := h
      · cases h
      · cases h)
    (fun xs W e a' W' h => by
      obtain ⟨h0, ⟨h, _⟩ | ⟨h, _⟩⟩ := h
      · exact .inl h
      · exact .inr (.inl h))
    ?done ?stop
  case assign =>
    rintro l pre x W K hI hy hlen hK
    have HKK := Lib.hid hK
    have HI := Lib.hid hI
    have HY := Lib.hid hy
    clear hK hI hy hCI0 hnw
    gi_wp2
    have hnw := HN0.out
    have hl3 : Below W.heap.size W (W.alloc (.cells #[.int .i64 (x.1 : Nat), .slice (some ⟨x.2, 0, none⟩) S.size S.size] 90)) := (Below.refl _ W).alloc (Nat.le_refl _) _
    have hsW := HI.out.2.size
    exact HKK.out _ _ ⟨(ClI.own (B := Wl.heap.size) (by omega)).alloc _ HI.out, ⟨(slY_own (B := Wl.heap.size)).alloc _ HY.out.1, HY.out.2⟩, W.heap.size, World.alloc_heap_new _ _, rfl⟩ (KeepsOthers.alloc _ _) (KpZ.below hl3 (by omega))
  case body =>
    rintro l pre x a' W ⟨hI, ⟨⟨hrow, hx2, hx1⟩, hxk⟩, B1, hB1, rfl⟩ hlt
    obtain ⟨k, hk⟩ : ∃ k, k = pre.length := ⟨_, rfl⟩
    rw [hxk, ← hk] at hrow hx1 hB1 ⊢
    have HXk := Lib.hid hk
    have hI2 := hI
    obtain ⟨⟨hI0, hIL⟩, hF⟩ := hI
    rw [← hk] at hI0 hIL
    have s0 : W.cell? ⟨B1, 0, none⟩ = some (.int .i64 (k : Nat)) := by simp [World.cell?, hB1]
    have s1 : W.cell? ⟨B1, 1, none⟩ = some (.slice (some ⟨x.2, 0, none⟩) S.size S.size) := by simp [World.cell?, hB1]
    have HB1 := Lib.hid (Array.getElem?_eq_some_iff.1 hB1).1
    have hbytes := (hrow.bytes (o := 0) (m := S.size) (by omega)).congr (G := S.now (first + k)) (fun i hi => by simp)
    obtain ⟨ep, hep⟩ : ∃ ep, ep = epochN (S.now (first + k)) (S.size - 20) k := ⟨_, rfl⟩
    have hsW := hF.size
    have KC := Lib.hid (slotRead_one k x.2 0 S.size (S.size - 20) S.size (S.now (first + k)) W (by omega) (by omega) (by omega) (by omega) (by omega) (Nat.le_refl _) (by omega) hbytes ep hep)
    have HEp := Lib.hid hep
    have HBy := Lib.hid hbytes
    have HI0 := Lib.hid hI0
    have HIL := Lib.hid hIL
    have HF := Lib.hid hF
    have HI2 := Lib.hid hI2
    have c1 := hF.b.cell
    have c2 := hF.d.cell
    have c3 : W.cell? ⟨q0, 1, none⟩ = some (.int .i64 (first : Nat)) := by simpa using cell_of_row W q0 1 _ _ _ hF.p
    have by0 := hF.z.bytes (o := 0) (m := S.size) (by omega)
    have KE := Lib.hid (fun W2 (l : Below W.heap.size W W2) => (equal_any (some ⟨x.2, 0, none⟩) (some ⟨q0 + 1, 0, none⟩) S.size S.size S.size S.size (S.now (first + k)) (fun _ => 0) W2 (hbytes.below l (Nat.le_refl _)) ((by0.congr fun i _ => rfl).below l (Nat.le_refl _))))
    obtain ⟨eq, heq⟩ : ∃ eq, eq = ((strF (S.now (first + k)) S.size).toList == (strF (fun _ => 0) S.size).toList) := ⟨_, rfl⟩
    rw [← heq] at KE
    have HEq := Lib.hid heq
    clear hbytes hrow hB1 hx2 hep hI0 hIL hF hI2 hCI0 hxk hk by0 heq hnw
    have goOn : ∀ w5 : World, Below W.heap.size W w5 → dirtyB S first k = false → KeepsOthers W w5 ∧ KpZ n0 (q0 + 1 + 1 + 1) W w5 ∧ ClI w base n0 q0 first count M S (pre ++ [x]) w5 := fun w5 l5 hd => by
      have h5 := (ClI.own (B := W.heap.size) (q0 := q0) (count := count) (M := M) (S := S) (first := first) (n0 := n0) (base := base) (w := w) (by have := HN0.out; omega)) _ _ _ none HI2.out (grown_below (r := none) l5) (by simp)
      have hci : clI S first k = 0 := by unfold clI; rw [if_neg (by rw [hd]; simp)]
      have hcs : clS S first (k + 1) = clS S first k := by rw [clS, if_neg (by rw [hd]; simp)]
      refine ⟨KeepsOthers.of_grownBy (grown_below (r := none) l5) (by simp), KpZ.below l5 (by omega), ⟨fun j hj => ?_, ?_⟩, h5.2⟩
      · rw [List.length_append, ← HXk.out] at hj
        rcases Nat.lt_or_ge j k with q | q
        · exact HI0.out j q
        · obtain rfl : j = k := by simp at hj; omega
          exact hci
      · rw [List.length_append, ← HXk.out]
        have := h5.1.2
        rw [← HXk.out] at this
        show Left (clS S first (k + 1)) _ _ _ _
        rw [hcs]
        exact this
    have HGo := Lib.hid goOn
    clear goOn
    by_cases hz : ep = 0
    · have hdirty : dirtyB S first k = !eq := by
        unfold dirtyB
        rw [← HEp.out, hz, HEq.out]; rfl
      subst hz
      have HDt := Lib.hid hdirty
      clear hdirty
      cases eq
      · have hd : dirtyB S first k = true := HDt.out
        have KW := Lib.hid (show ∀ W2, Below W.heap.size W W2 → Calls Try.prog 26 #[.pointer (some ⟨M.p, 0, none⟩), .int .i64 ((first : Int) + (k : Int)), .slice (some ⟨q0 + 1, 0, none⟩) S.size S.size] W2 fun e w8 =>
            e = .returned (.int .i64 (clI S first k)) ∧ Left (clS S first (k + 1)) base M w w8 ∧ ClFix n0 q0 M S first count w8 ∧ KeepsOthers W w8 ∧ KpZ n0 (q0 + 1 + 1 + 1) W w8 from fun W2 l => by
          rw [show ((first : Int) + (k : Int)) = ((first + k : Nat) : Int) by omega]
          obtain ⟨v', dk, t, kb, ow⟩ := HIL.out
          have d2 := dk.below l
          have f2 := (ClFix.own (B := W.heap.size)) () _ _ none HF.out (grown_below (r := none) l) (by simp)
          have hw2 : w.heap.size ≤ W2.heap.size := Nat.le_trans t.size l.size
          have hlen := clS_len S first k
          refine (write_any ((first + k : Nat) : Int) (q0 + 1) 0 S.size S.size (fun _ => 0) W2 base { M with vl := v' } _ d2 (Nat.le_trans hbase hw2) (by omega) ((f2.z.bytes (o := 0) (m := S.size) (by omega)).congr fun i _ => rfl)).mono ?_
          rintro e w8 ⟨rfl, h8⟩
          have e1 : clI S first k = putI (clS S first k) ((first + k : Nat) : Int) S.size (fun _ => 0) := by unfold clI; rw [if_pos hd]
          have e2 : clS S first (k + 1) = putS (clS S first k) ((first + k : Nat) : Int) S.size (fun _ => 0) := by rw [clS, if_pos hd]
          have f8 := f2.turns HD.out (by have := HN0.out; omega) (by have := HN0.out; omega) d2 h8.turns
          rw [e1, e2]
          exact ⟨rfl, Left.trans t kb ow (Left.behind l h8), f8, (KeepsOthers.of_grownBy (grown_below (r := none) l) (by simp)).trans (Turns.others d2 h8.turns), ⟨Nat.le_trans l.size h8.turns.size, f8.s.trans HF.out.s.symm⟩⟩)
        obtain ⟨I, hI⟩ : ∃ I, I = clI S first k := ⟨_, rfl⟩
        rw [← hI] at KW
        have HI := Lib.hid hI
        clear hI hd
        by_cases hI0 : I = 0
        · have hI1 : (I != 0) = false := by simp [hI0]
          have HZ := Lib.hid hI0
          clear hI0
          gi_wp2_with (first
          | (refine ⟨trivial, ?_⟩; gi_at_call 45; refine CallsIn.mono (callsIn_wide.2 KC.out) ?_; rintro _ w5 ⟨⟨A, kk, d, rfl⟩, l5⟩; have L5 := Lib.hid l5; have hs5 := l5.size; have c5 := (l5.cell (p := ⟨q0 + 1 + 1, 0, none⟩) (by show q0 + 1 + 1 < _; omega)).trans c1; have c6 := (l5.cell (p := ⟨n0, 0, none⟩) (by show n0 < _; omega)).trans c2; have c7 := (l5.cell (p := ⟨q0, 1, none⟩) (by show q0 < _; omega)).trans c3; have s5 := (l5.cell (p := ⟨B1, 1, none⟩) HB1.out).trans s1; have s6 := (l5.cell (p := ⟨B1, 0, none⟩) HB1.out).trans s0; clear l5)
          | (refine ⟨trivial, ?_⟩; gi_at_call 51; refine CallsIn.mono (callsIn_wide.2 (KE.out _ L5.out)) ?_; rintro _ _ ⟨rfl, rfl⟩)
          | (refine ⟨trivial, ?_⟩; gi_at_call 26; refine CallsIn.mono (callsIn_wide.2 (KW.out _ L5.out)) ?_; rintro _ w8 ⟨rfl, h8, f8, k8, kp8⟩; have H8 := Lib.hid (And.intro h8 (And.intro f8 (And.intro k8 kp8))); clear h8 f8 k8 kp8))
          refine ⟨H8.out.2.2.1, H8.out.2.2.2, ⟨fun j hj => ?_, ?_⟩, H8.out.2.1⟩
          · rw [List.length_append, ← HXk.out] at hj
            rcases Nat.lt_or_ge j k with q | q
            · exact HI0.out j q
            · obtain rfl : j = k := by simp at hj; omega
              exact HI.out.symm.trans HZ.out
          · rw [List.length_append, ← HXk.out]
            exact H8.out.1
        · have hI1 : (I != 0) = true := by simp [hI0]
          have HZ := Lib.hid hI0
          clear hI0
          gi_wp2_with (first
          | (refine ⟨trivial, ?_⟩; gi_at_call 45; refine CallsIn.mono (callsIn_wide.2 KC.out) ?_; rintro _ w5 ⟨⟨A, kk, d, rfl⟩, l5⟩; have L5 := Lib.hid l5; have hs5 := l5.size; have c5 := (l5.cell (p := ⟨q0 + 1 + 1, 0, none⟩) (by show q0 + 1 + 1 < _; omega)).trans c1; have c6 := (l5.cell (p := ⟨n0, 0, none⟩) (by show n0 < _; omega)).trans c2; have c7 := (l5.cell (p := ⟨q0, 1, none⟩) (by show q0 < _; omega)).trans c3; have s5 := (l5.cell (p := ⟨B1, 1, none⟩) HB1.out).trans s1; have s6 := (l5.cell (p := ⟨B1, 0, none⟩) HB1.out).trans s0; clear l5)
          | (refine ⟨trivial, ?_⟩; gi_at_call 51; refine CallsIn.mono (callsIn_wide.2 (KE.out _ L5.out)) ?_; rintro _ _ ⟨rfl, rfl⟩)
          | (refine ⟨trivial, ?_⟩; gi_at_call 26; refine CallsIn.mono (callsIn_wide.2 (KW.out _ L5.out)) ?_; rintro _ w8 ⟨rfl, h8, f8, k8, kp8⟩; have c8 := f8.r.cell; have z8 := f8.r.frozen; have H8 := Lib.hid (And.intro h8 (And.intro f8 (And.intro k8 kp8))); clear h8 f8 k8 kp8))
          refine ⟨H8.out.2.2.1.trans (KeepsOthers.setCell _ _ _), k, by rw [List.length_append, ← HXk.out]; rfl, HI0.out, by rw [← HI.out]; exact HZ.out, H8.out.1.store HD.out H8.out.2.1.r (by have := HN0.out; omega) (by decide) (by decide) _, ?_⟩
          rw [← HI.out]
          exact H8.out.2.1.r.set _
      · gi_wp2_with (first
          | (refine ⟨trivial, ?_⟩; gi_at_call 45; refine CallsIn.mono (callsIn_wide.2 KC.out) ?_; rintro _ w5 ⟨⟨A, kk, d, rfl⟩, l5⟩; have L5 := Lib.hid l5; have hs5 := l5.size; have c5 := (l5.cell (p := ⟨q0 + 1 + 1, 0, none⟩) (by show q0 + 1 + 1 < _; omega)).trans c1; have c6 := (l5.cell (p := ⟨n0, 0, none⟩) (by show n0 < _; omega)).trans c2; have c7 := (l5.cell (p := ⟨q0, 1, none⟩) (by show q0 < _; omega)).trans c3; have s5 := (l5.cell (p := ⟨B1, 1, none⟩) HB1.out).trans s1; have s6 := (l5.cell (p := ⟨B1, 0, none⟩) HB1.out).trans s0; clear l5)
          | (refine ⟨trivial, ?_⟩; gi_at_call 51; refine CallsIn.mono (callsIn_wide.2 (KE.out _ L5.out)) ?_; rintro _ _ ⟨rfl, rfl⟩))
        exact HGo.out _ L5.out HDt.out
    · have hd : dirtyB S first k = false := by
        unfold dirtyB
        rw [← HEp.out, decide_eq_false hz]; rfl
      have HDt := Lib.hid hd
      have hz1 : 0 < ep := by omega
      clear hz hd
      gi_wp2_with (first
        | (refine ⟨trivial, ?_⟩; gi_at_call 45; refine CallsIn.mono (callsIn_wide.2 KC.out) ?_; rintro _ w5 ⟨⟨A, kk, d, rfl⟩, l5⟩; have L5 := Lib.hid l5; have hs5 := l5.size; have c5 := (l5.cell (p := ⟨q0 + 1 + 1, 0, none⟩) (by show q0 + 1 + 1 < _; omega)).trans c1; have c6 := (l5.cell (p := ⟨n0, 0, none⟩) (by show n0 < _; omega)).trans c2; have c7 := (l5.cell (p := ⟨q0, 1, none⟩) (by show q0 < _; omega)).trans c3; have s5 := (l5.cell (p := ⟨B1, 1, none⟩) HB1.out).trans s1; have s6 := (l5.cell (p := ⟨B1, 0, none⟩) HB1.out).trans s0; clear l5)
        | refine ⟨trivial, ?_⟩)
      exact HGo.out _ L5.out HDt.out
  case done =>
    rintro D xs W hDl hSx hI hK
    have hxl : xs.length = count := fst_len hSx
    obtain ⟨⟨hI0, hIL⟩, hF⟩ := hI
    rw [hxl] at hI0 hIL
    have c2 := hF.d.cell
    have hsW := hF.size
    have KF := Lib.hid (show Calls Try.prog 52 #[.pointer (some ⟨M.p, 0, none⟩)] W fun e w8 => e = .returned (.int .i64 (flushI (clS S first count))) ∧ Left (flushD (clS S first count)) base M w w8 ∧ ClFix n0 q0 M S first count w8 ∧ KeepsOthers W w8 from by
      obtain ⟨v', dk, t, kb, ow⟩ := hIL
      refine (flush_any W base { M with vl := v' } _ dk).mono ?_
      rintro e w8 ⟨rfl, h8⟩
      exact ⟨rfl, Left.trans t kb ow h8, hF.turns HD.out (by omega) (by omega) dk h8.turns, Turns.others dk h8.turns⟩)
    obtain ⟨I, hI⟩ : ∃ I, I = flushI (clS S first count) := ⟨_, rfl⟩
    rw [← hI] at KF
    have HI := Lib.hid hI
    have HI0 := Lib.hid hI0
    have HK := Lib.hid hK
    clear hI0 hIL hF hK hI hCI0 hnw hSx hxl
    gi_wp2_with (refine ⟨trivial, ?_⟩; gi_at_call 52; refine CallsIn.mono (callsIn_wide.2 KF.out) ?_; rintro _ w8 ⟨rfl, h8, f8, k8⟩; have c8 := f8.r.cell; have z8 := f8.r.frozen; have H8 := Lib.hid (And.intro h8 (And.intro f8 k8)); clear h8 f8 k8)
    have hnw := HN0.out
    have hDk : (w8.setCell ⟨n0 + 1, 0, none⟩ (.int .i64 I)).heap[D]? = some (.deferred (some [])) := (Below.heap_setCell _ _ _ _ (by show D ≠ n0 + 1; omega)).trans (H8.out.2.2.same D _ HK.out rfl)
    refine ⟨by simp, .inl ⟨_, _, rfl, run_takeDeferred hDk, ?_⟩⟩
    have r1 : Boxed ((w8.setCell ⟨n0 + 1, 0, none⟩ (.int .i64 I)).putObj D (.deferred none)) (n0 + 1) 29 (.int .i64 I) := (Boxed.set _ H8.out.2.1.r).kept (grownBy_putObj' _ D _) (fun e => by injection e with e; omega)
    have k1 := r1.cell
    have hfin : Left (flushD (clS S first count)) base M w ((w8.setCell ⟨n0 + 1, 0, none⟩ (.int .i64 I)).putObj D (.deferred none)) := (H8.out.1.store HD.out H8.out.2.1.r (by omega) (by decide) (by decide) _).other (grownBy_putObj' _ D _) (fun r e => by cases e; exact ⟨by omega, _, hDk, rfl⟩)
    refine ⟨.int .i64 I, ?_, .inr ⟨HI0.out, by rw [HI.out], hfin⟩⟩
    simp [results, Try.f27, go_sem, k1]
  case stop =>
    rintro D cd pre W hDl ⟨hSx, hSl⟩ ⟨rfl, k, hk, h0, h1, hL8, hB⟩ hK
    have c8 := hB.cell
    have H8 := Lib.hid (And.intro h0 (And.intro h1 (And.intro hL8 hB)))
    have HK := Lib.hid hK
    have hkc : k < count := by omega
    clear hL8 hB hK hCI0 hnw hSx h0 h1
    gi_wp2
    have hnw := HN0.out
    refine ⟨by simp, .inl ⟨_, _, rfl, run_takeDeferred HK.out, ?_⟩⟩
    have r1 : Boxed (W.putObj D (.deferred none)) (n0 + 1) 29 (.int .i64 (clI S first k)) := H8.out.2.2.2.kept (grownBy_putObj' _ D _) (fun e => by injection e with e; omega)
    have k1 := r1.cell
    have hfin : Left (clS S first (k + 1)) base M w (W.putObj D (.deferred none)) := H8.out.2.2.1.other (grownBy_putObj' _ D _) (fun r e => by cases e; exact ⟨by omega, _, HK.out, rfl⟩)
    refine ⟨_, ?_, .inl ⟨k, hkc, H8.out.1, H8.out.2.1, rfl, hfin⟩⟩
    simp [results, Try.f27, go_sem, k1]
end Go.Proofs.Ytmikemijdglgaaa
/- Memory kept by its types, while a law gathers rows beside a log. -/
namespace Go.Proofs.Ytmikemijdglgaaa
open Go.RowKit
set_option linter.unusedVariables false
set_option linter.unusedSimpArgs false

/-- Blocks of cells are kept, but those of bad types. -/
def KeepY (bad : TypeId → Prop) (W W' : World) : Prop := ∀ (k : Nat) (cs : Array Value) (t : TypeId), W.heap[k]? = some (.cells cs t (0, 0)) → ¬ bad t → W'.heap[k]? = some (.cells cs t (0, 0))
def badR (t : TypeId) : Prop := t = 47 ∨ t = 45
def badD (t : TypeId) : Prop := t = 78 ∨ t = 42 ∨ t = 111 ∨ t = 85
instance (t : TypeId) : Decidable (badR t) := by unfold badR; exact inferInstance
instance (t : TypeId) : Decidable (badD t) := by unfold badD; exact inferInstance
section
variable {bad : TypeId → Prop} {W W' W2 : World}
theorem KeepY.refl : KeepY bad W W := fun _ _ _ h _ => h
theorem KeepY.trans (h : KeepY bad W W') (k : KeepY bad W' W2) : KeepY bad W W2 := fun q cs t e b => k q cs t (h q cs t e b) b
theorem KeepY.below (l : Below W.heap.size W W') : KeepY bad W W' := fun k cs t e _ => (l.block k (Array.getElem?_eq_some_iff.1 e).1).trans e
theorem KeepY.grown {base e size n : Nat} {v : Value} {xs : List Value} (ho : W.ownsRow base e size v n xs) (he : bad e) (hg : W.grownBy W' v.ownBlock) : KeepY bad W W' := fun k cs t h b => (hg.block k (Array.getElem?_eq_some_iff.1 h).1 fun e2 => by
  obtain ⟨_, ds, hd⟩ := own_typed ho e2.symm
  refine b ?_
  rw [h] at hd
  injection hd with hd
  injection hd with _ hd
  rw [hd]; exact he).trans h
theorem KeepT.y {b : Nat} (h : KeepT b W W') (hb : ∃ cs, W.heap[b]? = some (.cells cs 85 (0, 0))) : KeepY badD W W' := fun k cs t e hn => by
  obtain ⟨ds, hb⟩ := hb
  refine h k cs t e (type_ne e hb fun q => hn (.inr (.inr (.inr q)))) (fun q => hn (.inl q)) (fun q => hn (.inr (.inl q))) fun q => hn (.inr (.inr (.inl q)))
theorem KeepY.brow {g n : Nat} {F : Nat → Nat} (h : KeepY bad W W') (r : BRow W g n F) (hb : ¬ bad 5) : BRow W' g n F := by
  obtain ⟨⟨c, hc, hx⟩, h2⟩ := r
  exact ⟨⟨c, h g c _ hc hb, hx⟩, h2⟩
theorem GrpR.keepY {n0 room n : Nat} {P : Nat → PutD} {v : Value} (h : GrpR n0 W room P n v) (k : KeepY bad W W') (h1 : ¬ bad 5) (h2 : ¬ bad 44) : GrpR n0 W' room P n v := by
  obtain ⟨ls, hl, ho, hp⟩ := h
  exact ⟨ls, hl, own_blockeq ho fun q cs _ e => k q cs _ e h2, hp.keep fun g m F r => k.brow r h1⟩
theorem GB.keepY {n0 : Nat} {gs : List (List Dc)} {g : List Dc} {vG vg : Value} (h : GB n0 gs g vG vg W) (k : KeepY badD W W') : GB n0 gs g vG vg W' :=
  h.kept (fun q cs e => k q cs _ e (by decide)) (fun q cs e => k q cs _ e (by decide))
end
/-- One change of a group that was made of puts. -/
theorem grp_at {n0 room n j : Nat} {W : World} {P : Nat → PutD} {v : Value} (h : GrpR n0 W room P n v) (hj : j < n) : ∃ g c b, v = .slice (some ⟨g, 0, none⟩) n c ∧ W.cell? ⟨g, j * 2, none⟩ = some (.int .i64 (P j).page) ∧ W.cell? ⟨g, j * 2 + 1, none⟩ = some (.slice (some ⟨b, 0, none⟩) (putN room (P j)) (putN room (P j))) ∧ BRow W b (putN room (P j)) (fun _ => (P j).b) ∧ ∃ cs, W.heap[g]? = some (.cells cs 44 (0, 0)) := by
  obtain ⟨ls, hl, ho, hp⟩ := h
  obtain ⟨k, rfl⟩ : ∃ k, n = k + 1 := ⟨n - 1, by omega⟩
  obtain ⟨g, c, rfl⟩ := ownsRow_succ ho
  have hx := List.getElem?_eq_getElem (l := ls) (i := j) (by omega)
  obtain ⟨h1, b, h2, h3, h4⟩ := hp j _ hx
  have hc := chCells_at hx
  have hlen := chCells_len ls
  have d : ∀ q u, (chCells ls)[q]? = some u → W.cell? ⟨g, q, none⟩ = some u := fun q u hu => by
    obtain ⟨hq, _⟩ := List.getElem?_eq_some_iff.1 hu
    rw [World.ownsRow.cellAt (w := W) (base := n0) (e := 44) (size := 2) ho q (by omega)]
    exact hu
  refine ⟨g, c, b, rfl, ?_, ?_, h4, (own_typed ho rfl).2⟩
  · rw [d _ _ hc.1, h1]
  · rw [d _ _ hc.2, h2]
theorem KeepY.cell {bad : TypeId → Prop} {W W' : World} {g i : Nat} {v : Value} {t : TypeId} (h : KeepY bad W W') (hg : ∃ cs, W.heap[g]? = some (.cells cs t (0, 0))) (ht : ¬ bad t) (hc : W.cell? ⟨g, i, none⟩ = some v) : W'.cell? ⟨g, i, none⟩ = some v := by
  obtain ⟨cs, hg⟩ := hg
  exact (World.cell?_of_block (w := W) (a := ⟨g, i, none⟩) ((h g cs t hg ht).trans hg.symm)).trans hc
/-- What is read of one change, in whatever world has kept it. -/
theorem grp_read {n0 room n j : Nat} {W : World} {P : Nat → PutD} {v : Value} (h : GrpR n0 W room P n v) (hj : j < n) : ∃ g c b m, v = .slice (some ⟨g, 0, none⟩) n c ∧ m = putN room (P j) ∧ ∀ (bad : TypeId → Prop) W', KeepY bad W W' → ¬ bad 44 → ¬ bad 5 →
    W'.cell? ⟨g, j * 2, none⟩ = some (.int .i64 (P j).page) ∧ W'.cell? ⟨g, j * 2 + 1, none⟩ = some (.slice (some ⟨b, 0, none⟩) m m) ∧ (convert 42 9 (.slice (some ⟨b, 0, none⟩) m m)).run Try.prog W' = .ok (.string (putDc room P j).2) W' := by
  obtain ⟨g, c, b, e, d0, d1, d2, d3⟩ := grp_at h hj
  refine ⟨g, c, b, _, e, rfl, fun bad W' k h1 h2 => ⟨k.cell d3 h1 d0, k.cell d3 h1 d1, conv_any _ (((k.brow d2 h2).bytes (o := 0) (m := putN room (P j)) (by omega)).congr fun q _ => rfl)⟩⟩
theorem GrpR.len {n0 room n : Nat} {W : World} {P : Nat → PutD} {v : Value} (h : GrpR n0 W room P n v) : ∃ A c, v = .slice A n c := by
  obtain ⟨ls, hl, ho, hp⟩ := h
  exact own_sl ho
theorem LSt.blk [Spare] {w0 w : World} {base b f cn ep : Nat} {M : DM} {L : LS} (h : LSt w0 base b f cn ep M L w) : ∃ cs, w.heap[b]? = some (.cells cs 85 (0, 0)) := ⟨_, h.2.1⟩
theorem gD_len (room n : Nat) (P : Nat → PutD) : (gD room n P).length = n := by unfold gD; simp
theorem gD_at {room n j : Nat} {P : Nat → PutD} (hj : j < n) : (gD room n P)[j]? = some (putDc room P j) := by
  unfold gD
  rw [List.getElem?_map, List.getElem?_range hj]
  rfl
/-- A row of the law's own that grows is nothing to a log. -/
theorem LSt.grown [Spare] {w0 W W' : World} {base b f cn ep n0 e size n : Nat} {M : DM} {L : LS} {v : Value} {xs : List Value} (h : LSt w0 base b f cn ep M L W) (ho : W.ownsRow n0 e size v n xs) (hn0 : base ≤ n0) (h1 : e ≠ 5) (h2 : ¬ badD e) (hg : W.grownBy W' v.ownBlock) : LSt w0 base b f cn ep M L W' := by
  obtain ⟨⟨u, hO⟩, hb, h3⟩ := h
  have lt : ∀ {k : Nat} {o : Obj}, W.heap[k]? = some o → k < W.heap.size := fun e => (Array.getElem?_eq_some_iff.1 e).1
  have kp : ∀ (k : Nat) (cs : Array Value) (t : TypeId), W.heap[k]? = some (.cells cs t (0, 0)) → t ≠ e → W'.heap[k]? = W.heap[k]? := fun k cs t hk hne => hg.block k (lt hk) fun e2 => by
    obtain ⟨_, ds, hd⟩ := own_typed ho e2.symm
    rw [hk] at hd
    injection hd with hd
    injection hd with _ hd
    exact hne hd
  have d := hO.d
  obtain ⟨V, ⟨c1, v1, _⟩, _⟩ := d.vf
  obtain ⟨U, ⟨c2, u1, _⟩, _⟩ := d.vn
  obtain ⟨vs, _, l2, _⟩ := d.lo
  have D' : Dsk W' base { M with vl := u } L.S := d.keep (kp _ _ _ d.hp fun q => h2 (.inl q.symm)) (kp _ _ _ v1 fun q => h2 (.inr (.inl q.symm))) (kp _ _ _ u1 fun q => h2 (.inr (.inl q.symm)))
    (fun k hk => by
      obtain ⟨_, ds, hd⟩ := own_typed l2 hk
      exact kp _ _ _ hd fun q => h2 (.inr (.inr (.inl q.symm)))) (fun g cs _ hb => (kp _ _ _ hb fun q => h1 q.symm).trans hb) hg.size
  exact ⟨⟨u, D', hO.b.grown hg hO.le (fun j hj => Nat.le_trans hn0 (ho.lt j hj).1), hO.z⟩, (kp _ _ _ hb fun q => h2 (.inr (.inr (.inr q.symm)))).trans hb, h3⟩
end Go.Proofs.Ytmikemijdglgaaa
/- LogAgain: its plain part. -/
namespace Go.Proofs.Ytmikemijdglgaaa
open Go.RowKit
set_option linter.unusedVariables false
set_option linter.unusedSimpArgs false

theorem NowInv.put {S : DS} (h : NowInv S) (a : Int) (n : Nat) (F : Nat → Nat) : NowInv (putS S a n F) := by
  unfold putS
  split
  · exact h
  · exact (h.keep _ _).strike
theorem NowInv.wr {S : DS} (h : NowInv S) (a sz : Nat) (sec : Nat → Nat → Nat) : ∀ k, NowInv (wrS a sz sec S k)
  | 0 => h
  | k + 1 => (NowInv.wr h a sz sec k).put _ _ _
theorem NowInv.flushD {S : DS} (h : NowInv S) : NowInv (flushD S) := by
  unfold Go.Proofs.Ytmikemijdglgaaa.flushD
  split
  · exact h
  · split
    · exact h.strike
    · exact h.flush
theorem appT_inv {f cn ep n : Nat} {L : LS} {P : Nat → PutD} (h : NowInv L.S) : NowInv (appT f cn ep L n P).2.S := by
  unfold appT
  split
  · exact h
  · split
    · exact h.wr _ _ _ _
    · exact (h.wr _ _ _ _).flushD
theorem appT_loose {f cn ep n : Nat} {L : LS} {P : Nat → PutD} : (appT f cn ep L n P).2.S.loose.length ≤ L.S.loose.length + n := by
  unfold appT
  split
  · exact Nat.le_add_right _ _
  · split
    · rename_i k hk
      obtain ⟨_, h2, _⟩ := (List.find?_range_eq_some).1 hk
      have := wrS_len (f + L.nx) L.S.size (secL ep L n P) L.S (k + 1)
      have := List.mem_range.1 h2
      show (wrS _ _ _ _ _).loose.length ≤ _
      omega
    · have := wrS_len (f + L.nx) L.S.size (secL ep L n P) L.S n
      show (flushD _).loose.length ≤ _
      unfold flushD
      split
      · exact this
      · split
        · rw [strikeS_loose]; exact this
        · exact Nat.zero_le _
/-- The elder groups of LogAgain, ahead of the crash. -/
structure AgE (L : LS) : Prop where
  al : Alive 1 10 L
  z : ∀ i, L.nx ≤ i → i < 10 → ∀ k, k < 64 → L.S.now (1 + i) k = 0
  e : ∀ i, i < L.nx → Elder 64 8 i (L.S.now (1 + i))
structure AgA (L : LS) : Prop where
  size : L.S.size = 64
  N : L.S.N = 12
  inv : NowInv L.S
  lo : L.S.loose.length ≤ 8
  nx : L.nx ≤ 10
  st : AgE L ∨ ∃ L0 n P k, AgE L0 ∧ L0.S.size = 64 ∧ n ≤ 8 ∧ (∀ j, j < n → (P j).b < 256) ∧ appR 10 L0 n P = 0 ∧ Fell 1 7 L0 n P L k
theorem secL_as {ep n j : Nat} {L : LS} {P : Nat → PutD} (hs : L.S.size = 64) (hp : putN (L.S.size - 45) (P j) = L.S.size - 45) : secL ep L n P j = chSec 64 ep (L.nx + j) (P j).page.toNat (decide (j + 1 = n)) (fun _ => (P j).b) := by
  rw [secL_at hp, hs]
theorem AgA.step {L : LS} {n : Nat} {P : Nat → PutD} (h : AgA L) (hn : n ≤ 8) (hb : ∀ j, j < n → (P j).b < 256) : AgA (appT 1 10 7 L n P).2 := by
  rcases h.st with hE | ⟨L0, n0, P0, k, a1, a2, a3, a4, a5, a6⟩
  · have hlo := appT_loose (f := 1) (cn := 10) (ep := 7) (n := n) (L := L) (P := P)
    rw [hE.al.lo] at hlo
    have hlo8 : (appT 1 10 7 L n P).2.S.loose.length ≤ 8 := Nat.le_trans hlo (by simp; omega)
    rcases app_cases (ep := 7) (n := n) (P := P) hE.al with ⟨_, _, e⟩ | ⟨h0, _, al, nx, sz, eN, at_, out⟩ | ⟨h0, _, k, fl⟩
    · rw [e]; exact h
    · obtain ⟨z1, z2, z3, z4, z5⟩ := appR_zero h0 (by rw [h.size]; omega)
      refine ⟨sz.trans h.size, eN.trans h.N, appT_inv h.inv, hlo8, by rw [nx]; exact z5, .inl ⟨al, fun i h1 h2 q hq => ?_, fun i hi => ?_⟩⟩
      · rw [nx] at h1
        rw [out (1 + i) fun j hj => by omega]
        exact hE.z i (by omega) h2 q hq
      · by_cases q : i < L.nx
        · rw [out (1 + i) fun j hj => by omega]; exact hE.e i q
        · obtain ⟨j, rfl⟩ : ∃ j, i = L.nx + j := ⟨i - L.nx, by omega⟩
          rw [← Nat.add_assoc, at_ j (by omega), secL_as h.size (z4 j (by omega))]
          exact elder_sec (by omega) (by omega) (by omega) (by omega) (by omega) fun _ => hb j (by omega)
    · have w := fl.w
      exact ⟨w.size.trans h.size, w.N.trans h.N, appT_inv h.inv, hlo8, by
        rw [fell_nx h0 fl.dd]; exact h.nx, .inr ⟨L, n, P, k, hE, h.size, hn, hb, h0, fl⟩⟩
  · rw [app_dead a6.dd]; exact h
/-- Behind the crash no slot is one of the newer epoch. -/
theorem AgA.crash {L : LS} (h : AgA L) (fa : Nat → Int) (m : Nat) : Up (crashS L.S fa m) ∧ (crashS L.S fa m).size = 64 ∧ (crashS L.S fa m).N = 12 ∧ (∀ j, (crashS L.S fa m).now j = (crashS L.S fa m).fast j) ∧ Rest 1 10 (fun i F => ¬ isCh F 44 i 8) (crashS L.S fa m) 0 := by
  refine ⟨⟨rfl, rfl⟩, h.size, h.N, h.inv.crash fa m, fun i _ hi => ?_⟩
  rcases h.st with hE | ⟨L0, n0, P0, k, a1, a2, a3, a4, a5, a6⟩
  · rw [(crash_quiet hE.al.lo).1]
    by_cases q : i < L.nx
    · exact elder_no (sz := 64) (by omega) (by omega) (by omega) (hE.e i q) (Nat.le_refl _) (by omega)
    · exact elder_no (sz := 64) (ep := 8) (by omega) (by omega) (by omega) (.inl (hE.z i (by omega) hi)) (Nat.le_refl _) (by omega)
  · obtain ⟨z1, z2, z3, z4, z5⟩ := appR_zero a5 (by rw [a2]; omega)
    have hlo : L.S.loose = (List.range k).map fun j => (1 + L0.nx + j, secL 7 L0 n0 P0 j) := by rw [a6.w.lo, a1.al.lo, List.nil_append]
    obtain ⟨c, c1, c2⟩ := crash_now (fa := fa) (L := m) hlo
    have hkn := a6.kn
    by_cases q : i < L0.nx
    · rw [c2 (1 + i) fun j hj => by omega, a6.w.out (1 + i) fun j hj => by omega]
      exact elder_no (sz := 64) (by omega) (by omega) (by omega) (a1.e i q) (Nat.le_refl _) (by omega)
    · obtain ⟨j, rfl⟩ : ∃ j, i = L0.nx + j := ⟨i - L0.nx, by omega⟩
      by_cases hj : j < k
      · rw [← Nat.add_assoc, c1 j hj, a6.w.fast, ← a1.al.nf, secL_as a2 (z4 j (by omega))]
        refine torn_elder (sz := 64) (by omega) (by omega) (by omega) (by omega) (by omega) (fun _ => a4 j (by omega)) fun q hq => ?_
        have := a1.z (L0.nx + j) (by omega) (by omega) q hq
        rw [← Nat.add_assoc] at this
        exact this
      · rw [c2 (1 + (L0.nx + j)) fun i hi => by omega, a6.w.out (1 + (L0.nx + j)) fun i hi => by omega]
        exact elder_no (sz := 64) (ep := 8) (by omega) (by omega) (by omega) (.inl (a1.z _ (by omega) (by omega))) (Nat.le_refl _) (by omega)
/-- The newer groups. -/
structure AgB (f cn ep : Nat) (L : LS) (gs : List (List Dc)) : Prop where
  al : Alive f cn L
  up : Up L.S
  size : L.S.size = 64
  N : L.S.N = 12
  ct : Cont f ep L.S L.nx gs
  rs : Rest f cn (fun i F => ¬ isCh F (L.S.size - 20) i ep) L.S L.nx
theorem AgB.step {f cn ep : Nat} {L : LS} {gs : List (List Dc)} {n : Nat} {P : Nat → PutD} (h : AgB f cn ep L gs) (he1 : 1 ≤ ep) (he : ep ≤ 1099511627776) (hc : cn ≤ 1048576) (hb : ∀ j, j < n → (P j).b < 256) :
    ((appT f cn ep L n P).1 ≠ 0 ∧ AgB f cn ep (appT f cn ep L n P).2 gs) ∨ ((appT f cn ep L n P).1 = 0 ∧ AgB f cn ep (appT f cn ep L n P).2 (gs ++ [gD 19 n P])) := by
  have k := appT_keepsUp (ep := ep) (n := n) (P := P) h.up (by rw [h.size]; omega) h.al.N
  rcases app_cases (ep := ep) (n := n) (P := P) h.al with ⟨e0, _, e⟩ | ⟨h0, e0, al, nx, sz, eN, at_, out⟩ | ⟨h0, e0, _⟩
  · rw [e]; exact .inl ⟨e0, h⟩
  · refine .inr ⟨e0, al, k.1, k.2.2.1.trans h.size, k.2.1.trans h.N, ?_, ?_⟩
    · have := h.ct.app (cn := cn) (T := (appT f cn ep L n P).2.S) (by rw [h.size]; omega) he1 he hc hb h0 sz nx (fun j hj q _ => by rw [at_ j hj]) out
      rw [h.size] at this
      exact this
    · have := h.rs.app (T := (appT f cn ep L n P).2.S) nx out
      rw [sz]
      exact this
  · rw [appT_up h.up (by rw [h.size]; omega) h.al.N h0] at e0
    cases e0
end Go.Proofs.Ytmikemijdglgaaa
/- LogWhole: its plain part. -/
namespace Go.Proofs.Ytmikemijdglgaaa
open Go.RowKit
set_option linter.unusedVariables false
set_option linter.unusedSimpArgs false

/-- The elder groups of LogWhole: nothing lets the disk go down. -/
structure WhA (L : LS) : Prop where
  al : Alive 2 9 L
  up : Up L.S
  size : L.S.size = 64
  N : L.S.N = 12
  z : ∀ i, L.nx ≤ i → i < 9 → ∀ k, k < 64 → L.S.now (2 + i) k = 0
  e : ∀ i, i < L.nx → Elder 64 4 i (L.S.now (2 + i))
theorem WhA.step {L : LS} {n : Nat} {P : Nat → PutD} (h : WhA L) (hb : ∀ j, j < n → (P j).b < 256) : WhA (appT 2 9 3 L n P).2 := by
  have k := appT_keepsUp (ep := 3) (n := n) (P := P) h.up (by rw [h.size]; omega) h.al.N
  rcases app_cases (ep := 3) (n := n) (P := P) h.al with ⟨_, _, e⟩ | ⟨h0, _, al, nx, sz, eN, at_, out⟩ | ⟨h0, e0, _⟩
  · rw [e]; exact h
  · obtain ⟨z1, z2, z3, z4, z5⟩ := appR_zero h0 (by rw [h.size]; omega)
    refine ⟨al, k.1, sz.trans h.size, eN.trans h.N, fun i h1 h2 q hq => ?_, fun i hi => ?_⟩
    · rw [nx] at h1
      rw [out (2 + i) fun j hj => by omega]
      exact h.z i (by omega) h2 q hq
    · by_cases q : i < L.nx
      · rw [out (2 + i) fun j hj => by omega]; exact h.e i q
      · obtain ⟨j, rfl⟩ : ∃ j, i = L.nx + j := ⟨i - L.nx, by omega⟩
        rw [← Nat.add_assoc, at_ j (by omega), secL_as h.size (z4 j (by omega))]
        exact elder_sec (by omega) (by omega) (by omega) (by omega) (by omega) fun _ => hb j (by omega)
  · rw [appT_up h.up (by rw [h.size]; omega) h.al.N h0] at e0
    cases e0
theorem whA_first : WhA ⟨newS 12 64, 0, false⟩ :=
  ⟨⟨rfl, rfl, rfl, fun _ => rfl, Nat.zero_le _, ⟨by show 64 ≤ 64; omega, by show 64 ≤ 4096; omega⟩, by show 2 + 9 ≤ 12; omega⟩, ⟨rfl, rfl⟩, rfl, rfl, fun _ _ _ _ _ => rfl, fun i hi => absurd hi (by show ¬ i < 0; omega)⟩
/-- The newer groups. -/
structure WhB (L : LS) (gs : List (List Dc)) : Prop where
  al : Alive 2 9 L
  size : L.S.size = 64
  N : L.S.N = 12
  ct : Cont 2 4 L.S L.nx gs
  rs : Rest 2 9 (fun i F => Elder L.S.size 4 i F) L.S L.nx
theorem WhA.begin {L : LS} (h : WhA L) (dn : Int) : WhB ⟨armS L.S dn, 0, false⟩ [] := by
  refine ⟨⟨rfl, h.al.dn, h.al.lo, h.al.nf, Nat.zero_le _, h.al.sz, h.al.N⟩, h.size, h.N, Cont.zero _ _ _, fun i _ hi => ?_⟩
  show Elder L.S.size 4 i (L.S.now (2 + i))
  rw [h.size]
  by_cases q : i < L.nx
  · exact h.e i q
  · exact .inl (h.z i (by omega) hi)
/-- A group in the midst of which the disk went down. -/
structure WhF (L0 : LS) (gs : List (List Dc)) (n : Nat) (P : Nat → PutD) (L : LS) : Prop where
  b : WhB L0 gs
  r : appR 9 L0 n P = 0
  p : ∀ j, j < n → (P j).b < 256
  f : ∃ k, Fell 2 4 L0 n P L k
theorem WhB.step {L : LS} {gs : List (List Dc)} {n : Nat} {P : Nat → PutD} (h : WhB L gs) (hb : ∀ j, j < n → (P j).b < 256) :
    ((appT 2 9 4 L n P).1 ≠ 0 ∧ (appT 2 9 4 L n P).1 ≠ 4 ∧ WhB (appT 2 9 4 L n P).2 gs) ∨ ((appT 2 9 4 L n P).1 = 0 ∧ WhB (appT 2 9 4 L n P).2 (gs ++ [gD 19 n P])) ∨ ((appT 2 9 4 L n P).1 = 4 ∧ WhF L gs n P (appT 2 9 4 L n P).2) := by
  rcases app_cases (ep := 4) (n := n) (P := P) h.al with ⟨e0, e4, e⟩ | ⟨h0, e0, al, nx, sz, eN, at_, out⟩ | ⟨h0, e0, hf⟩
  · rw [e]; exact .inl ⟨e0, e4, h⟩
  · refine .inr (.inl ⟨e0, al, sz.trans h.size, eN.trans h.N, ?_, ?_⟩)
    · have := h.ct.app (cn := 9) (T := (appT 2 9 4 L n P).2.S) (by rw [h.size]; omega) (by omega) (by omega) (by omega) hb h0 sz nx (fun j hj q _ => by rw [at_ j hj]) out
      rw [h.size] at this
      exact this
    · have := h.rs.app (T := (appT 2 9 4 L n P).2.S) nx out
      rw [sz]
      exact this
  · exact .inr (.inr ⟨e0, h, h0, hb, hf⟩)
/-- Behind a crash, where the disk had not gone down. -/
theorem WhB.crash {L : LS} {gs : List (List Dc)} (h : WhB L gs) (fa : Nat → Int) (m : Nat) : Up (crashS L.S fa m) ∧ (crashS L.S fa m).size = 64 ∧ (crashS L.S fa m).N = 12 ∧ Cont 2 4 (crashS L.S fa m) L.nx gs ∧ Rest 2 9 (fun i F => ¬ isCh F ((crashS L.S fa m).size - 20) i 4) (crashS L.S fa m) L.nx := by
  have e : (crashS L.S fa m).now = L.S.now := (crash_quiet h.al.lo).1
  refine ⟨⟨rfl, rfl⟩, h.size, h.N, h.ct.keep h.al.sz.1 rfl fun i _ => by rw [e], fun i h1 h2 => ?_⟩
  rw [e]
  show ¬ isCh (L.S.now (2 + i)) (L.S.size - 20) i 4
  exact elder_no h.al.sz.1 (by omega) (by omega) (h.rs i h1 h2) (Nat.le_refl _) (by omega)
theorem WhF.crash {L0 L : LS} {gs : List (List Dc)} {n : Nat} {P : Nat → PutD} (h : WhF L0 gs n P L) (fa : Nat → Int) (m : Nat) : Up (crashS L.S fa m) ∧ (crashS L.S fa m).size = 64 ∧ (crashS L.S fa m).N = 12 := by
  obtain ⟨k, hk⟩ := h.f
  exact ⟨⟨rfl, rfl⟩, hk.w.size.trans h.b.size, hk.w.N.trans h.b.N⟩
theorem WhF.read {L0 L : LS} {gs : List (List Dc)} {n k' m : Nat} {P : Nat → PutD} {fa : Nat → Int} (h : WhF L0 gs n P L) (hk : k' ≤ 9) (hch : ∀ i, i < k' → chAt (crashS L.S fa m) 2 4 i) (hno : k' < 9 → ¬ chAt (crashS L.S fa m) 2 4 k') :
    (dTo (lastB (crashS L.S fa m) 2) (dcOf (crashS L.S fa m) 2) k').1 = gs ∨ (dTo (lastB (crashS L.S fa m) 2) (dcOf (crashS L.S fa m) 2) k').1 = gs ++ [gD 19 n P] := by
  obtain ⟨k, hF⟩ := h.f
  have := read_fell (fa := fa) (m := m) h.b.al h.b.ct h.b.rs (by omega) (by omega) (by omega) h.p h.r hF hk hch hno
  rw [h.b.size] at this
  exact this
theorem WhF.lo {L0 L : LS} {gs : List (List Dc)} {n : Nat} {P : Nat → PutD} (h : WhF L0 gs n P L) : L.dead = true := by
  obtain ⟨k, hk⟩ := h.f
  exact hk.dd
end Go.Proofs.Ytmikemijdglgaaa
/- A Storm and a Row that came in as arguments. -/
namespace Go.Proofs.Ytmikemijdglgaaa
open Go.Joins Go.Deep Go.ChangeShapes Go.WideShapes Go.ChangeAt Go.RowKit
set_option linter.unusedVariables false
section
variable {H : Type} {enc : TypeId × Value → H} {w : World} {base : Nat} {held : Bool}
theorem lcells_groups : Try.prog.cellsOf 22 = 1 := by kernel_rfl
theorem lcells_storm : Try.prog.cellsOf 69 = 4 := by kernel_rfl
theorem lcells_row : Try.prog.cellsOf 24 = 5 := by kernel_rfl
theorem list_four {α : Type} : ∀ (l : List α), l.length = 4 → ∃ a b c d, l = [a, b, c, d]
  | [a, b, c, d], _ => ⟨a, b, c, d, rfl⟩
theorem list_five {α : Type} : ∀ (l : List α), l.length = 5 → ∃ a b c d e, l = [a, b, c, d, e]
  | [a, b, c, d, e], _ => ⟨a, b, c, d, e, rfl⟩
theorem storm_in {fuel : Nat} {v : Value} {x : DataW H × List MemPlace} (hv : ∃ cs, v = .agg cs ∧ cs.size = 4) (h : DataW.trod enc Try.prog w base (fun _ => true) held fuel 69 v.cells.toList = some x) :
    ∃ A n c G Q A2 n2 c2 G2 Q2 dn AF nF cF fa, v = .agg #[.slice A n c, .slice A2 n2 c2, .int .i64 dn, .slice AF nF cF] ∧ PutsG w A n G Q ∧ PutsG w A2 n2 G2 Q2 ∧ dn ≤ 9223372036854775807 ∧ Ints w AF nF fa := by
  obtain ⟨cs, rfl, hs⟩ := hv
  obtain ⟨l⟩ := cs
  have h' : DataW.trod enc Try.prog w base (fun _ => true) held fuel 69 l = some x := by simpa [Value.cells] using h
  clear h
  obtain ⟨xs, n, _, _, hl, hlen, hf⟩ := DataW.trod_struct Try.underlying69 h'
  clear hl
  have hx4 : xs.length = 4 := hlen
  clear hlen
  have hl4 : l.length = 4 := hs
  clear hs
  obtain ⟨c0, c1, c2, c3, rfl⟩ := list_four l hl4
  obtain ⟨y0, y1, y2, y3, rfl⟩ := list_four xs hx4
  have t0 : DataW.trod enc Try.prog w base (fun _ => true) held n 22 [c0] = some y0 := by simpa [lcells_groups] using hf 0 _ rfl
  have t1 : DataW.trod enc Try.prog w base (fun _ => true) held n 22 [c1] = some y1 := by simpa [lcells_groups] using hf 1 _ rfl
  have t2 : DataW.trod enc Try.prog w base (fun _ => true) held n 3 [c2] = some y2 := by simpa [lcells_int] using hf 2 _ rfl
  have t3 : DataW.trod enc Try.prog w base (fun _ => true) held n 67 [c3] = some y3 := by simpa [lcells_ints] using hf 3 _ rfl
  obtain ⟨A, n1, k1, G, Q, rfl, i1⟩ := groups_in t0
  obtain ⟨A2, n2, k2, G2, Q2, rfl, i2⟩ := groups_in t1
  obtain ⟨z, e2, _, w2⟩ := DataW.trod_int Try.underlying3 t2
  obtain ⟨AF, nF, cF, fa, rfl, i3, _⟩ := lints_in t3
  simp only [List.cons.injEq, and_true] at e2
  subst e2
  have bd := bounds_i64 w2
  exact ⟨A, n1, k1, G, Q, A2, n2, k2, G2, Q2, z, AF, nF, cF, fa, rfl, i1, i2, bd.2, i3⟩
theorem row_in {fuel : Nat} {v : Value} {x : DataW H × List MemPlace} (hv : ∃ cs, v = .agg cs ∧ cs.size = 5) (h : DataW.trod enc Try.prog w base (fun _ => true) held fuel 24 v.cells.toList = some x) :
    ∃ more f cn ep A n c G Q, v = .agg #[.int .u8 more, .int .i64 f, .int .i64 cn, .int .i64 ep, .slice A n c] ∧ (0 ≤ more ∧ more < 256) ∧ (-9223372036854775808 ≤ f ∧ f ≤ 9223372036854775807) ∧ (-9223372036854775808 ≤ cn ∧ cn ≤ 9223372036854775807) ∧ (-9223372036854775808 ≤ ep ∧ ep ≤ 9223372036854775807) ∧ PutsG w A n G Q := by
  obtain ⟨cs, rfl, hs⟩ := hv
  obtain ⟨l⟩ := cs
  have h' : DataW.trod enc Try.prog w base (fun _ => true) held fuel 24 l = some x := by simpa [Value.cells] using h
  clear h
  obtain ⟨xs, n, _, _, hl, hlen, hf⟩ := DataW.trod_struct Try.underlying24 h'
  clear hl
  have hx5 : xs.length = 5 := hlen
  clear hlen
  have hl5 : l.length = 5 := hs
  clear hs
  obtain ⟨c0, c1, c2, c3, c4, rfl⟩ := list_five l hl5
  obtain ⟨y0, y1, y2, y3, y4, rfl⟩ := list_five xs hx5
  have t0 : DataW.trod enc Try.prog w base (fun _ => true) held n 5 [c0] = some y0 := by simpa [lcells_u8] using hf 0 _ rfl
  have t1 : DataW.trod enc Try.prog w base (fun _ => true) held n 3 [c1] = some y1 := by simpa [lcells_int] using hf 1 _ rfl
  have t2 : DataW.trod enc Try.prog w base (fun _ => true) held n 3 [c2] = some y2 := by simpa [lcells_int] using hf 2 _ rfl
  have t3 : DataW.trod enc Try.prog w base (fun _ => true) held n 3 [c3] = some y3 := by simpa [lcells_int] using hf 3 _ rfl
  have t4 : DataW.trod enc Try.prog w base (fun _ => true) held n 22 [c4] = some y4 := by simpa [lcells_groups] using hf 4 _ rfl
  obtain ⟨z0, e0, _, w0⟩ := DataW.trod_int Try.underlying5 t0
  obtain ⟨z1, e1, _, w1⟩ := DataW.trod_int Try.underlying3 t1
  obtain ⟨z2, e2, _, w2⟩ := DataW.trod_int Try.underlying3 t2
  obtain ⟨z3, e3, _, w3⟩ := DataW.trod_int Try.underlying3 t3
  obtain ⟨A, n1, k1, G, Q, rfl, i1⟩ := groups_in t4
  simp only [List.cons.injEq, and_true] at e0 e1 e2 e3
  subst e0 e1 e2 e3
  have b0 := bounds_u8 w0
  exact ⟨z0, z1, z2, z3, A, n1, k1, G, Q, rfl, by omega, bounds_i64 w1, bounds_i64 w2, bounds_i64 w3, i1⟩
end
end Go.Proofs.Ytmikemijdglgaaa
/- The document's Room and Sector of layer 11; the law's right. -/
namespace Go.Proofs.Ytmikemijdglgaaa
open Go.RowKit
set_option linter.unusedVariables false
set_option linter.unusedSimpArgs false

theorem lrefRoom_any (n : Int) (w : World) (h0 : 64 ≤ n) (h1 : n ≤ 4096) :
    Calls Try.prog 15 #[.int .i64 n] w fun e w' => e = .returned (.int .i64 (n - 45)) ∧ w = w' := by
  have K := Lib.hid (show ∀ W, Calls Try.prog 38 #[.int .i64 n] W fun e w' => e = .returned (.int .i64 (n - 36)) ∧ W = w' from fun W => (refRoom_any n W (by omega) (by omega)).mono fun e w' ⟨he, hw⟩ => ⟨by rw [he]; unfold roomI; rw [if_pos ⟨h0, h1⟩], hw⟩)
  have hw1 : IntKind.i64.wrap (n - 36 - 9) = n - 45 := by rw [IntKind.wrap_i64]; omega
  go_enter Try.func15, Try.ntmps15
  go_wp2_with fail
  refine (K.out w).mono ?_
  rintro e w' ⟨rfl, rfl⟩
  go_wp2
  go_ret
  exact ⟨ret_int (by omega), rfl⟩
theorem strF_size (F : Nat → Nat) (n : Nat) : (strF F n).size = n := by
  have := congrArg List.length (strF_list F n)
  simpa using this
theorem strF_get {F : Nat → Nat} {n j : Nat} (hF : ∀ i, i < n → F i < 256) (hj : j < n) (h : j < (strF F n).data.size) : ((strF F n).data[j]).toNat = F j := by
  have e := strF_list F n
  have h2 : (strF F n).data.toList[j]? = some (UInt8.ofNat (F j)) := by
    rw [e, List.getElem?_map, List.getElem?_range hj]
    rfl
  rw [Array.getElem?_toList, Array.getElem?_eq_getElem h] at h2
  injection h2 with h2
  rw [h2]
  have := hF j hj
  simp [UInt8.toNat_ofNat]
  omega
/-- The bytes of a text, in new memory. -/
theorem str_bytes (w : World) {F : Nat → Nat} {n : Nat} (cap : Nat) (fr : Nat × Nat) (hF : ∀ i, i < n → F i < 256) (hn : n ≤ 9223372036854775807) : Bytes (w.drew.alloc (.cells (bytesRow (strF F n) cap) 5 fr)) (some ⟨w.heap.size, 0, none⟩) n F := by
  have hs : (strF F n).data.size = n := strF_size F n
  refine ⟨hn, hF, fun _ => ⟨w.heap.size, 0, rfl, fun i hi => ?_⟩⟩
  rw [Nat.zero_add]
  have hb : (w.drew.alloc (.cells (bytesRow (strF F n) cap) 5 fr)).heap[w.heap.size]? = some (.cells (bytesRow (strF F n) cap) 5 fr) := World.alloc_heap_new w.drew _
  have hc := bytesRow_at (strF F n) cap i (by omega)
  rw [strF_get hF hi] at hc
  rw [cell_of_row _ w.heap.size i _ _ _ hb]
  exact hc
theorem OwnB.low {w : World} {b0 b1 n c : Nat} {A : Option Addr} {F : Nat → Nat} (h : OwnB w b1 A n c F) (hb : b0 ≤ b1) : OwnB w b0 A n c F :=
  ⟨own_lower h.1 hb, h.2⟩
theorem OwnB.nil_ {w : World} {b n c : Nat} {A : Option Addr} {F : Nat → Nat} (h : OwnB w b A n c F) : A = none → c = 0 := h.2.2.2.2
set_option maxHeartbeats 1000000 in
theorem refBytes_big (v many : Nat) (w : World) (hv : v ≤ 9223372036854775807) (hm : many ≤ 8) :
    Calls Try.prog 43 #[.int .i64 v, .int .i64 many] w fun e w' =>
      ∃ A c, e = .returned (.slice A many c) ∧ OwnB w' w.heap.size A many c (leF v) ∧ Below w.heap.size w w' := by
  go_enter Try.func43, Try.ntmps43
  go_wp2
  go_loopw [0, 5, 6] (fun t o i wr => ∃ (k : Nat) (A : Option Addr) (c : Nat), k ≤ many ∧ t = .int .i64 (v / 256 ^ k : Nat) ∧ i = .int .i64 k ∧ o = .slice A k c ∧ OwnB wr w.heap.size A k c (leF v) ∧ Below w.heap.size w wr) (fun _ _ i _ => many - (intOf i).toNat)
  case atStart => exact ⟨0, none, 0, Nat.zero_le _, by simp, rfl, rfl, OwnB.none_ w _ _, Below.refl _ _⟩
  case round =>
    obtain ⟨k, A, c, hk, rfl, rfl, rfl, ho, hl⟩ := hrel
    by_cases hlt : k < many
    · have hx : v / 256 ^ k ≤ v := Nat.div_le_self _ _
      have hd : v / 256 ^ k / 256 = v / 256 ^ (k + 1) := by rw [Nat.pow_succ, Nat.div_div_eq_div_mul]
      have hF : ∀ i, i < k + 1 → pushF (leF v) k (((v / 256 ^ k : Nat) : Int) % 256).toNat i = leF v i := fun i hi => by
        unfold pushF leF
        split
        · rfl
        · obtain rfl : i = k := by omega
          omega
      obtain ⟨x, hxx⟩ : ∃ x, x = v / 256 ^ k := ⟨_, rfl⟩
      rw [← hxx] at hx hd hF ⊢
      have HD := Lib.hid hd
      have HF := Lib.hid hF
      have HO := Lib.hid ho
      clear hxx hd hF ho
      have hs := hl.size
      go_wp2_with (at_builtin; with_reducible refine wpList_push wr rfl _ _ 42 rfl Try.underlying42 u8infoAll w.heap.size _ _ _ _ rfl HO.out _ rfl ?d1 ?d2 ?d3 hs ?d4)
      case d1 => omega
      case d2 => omega
      case d3 => omega
      case d4 =>
        intro A1 c1 w1 o1 l1
        have o2 := o1.congr HF.out
        have l2 := hl.trans l1
        clear o1 l1 HO
        go_wp2
        go_roundw
        case rel => exact ⟨k + 1, A1, c1, by omega, by rw [← HD.out]; go_num, by go_num, rfl, o2, l2⟩
        case measure => simp [intOf]; omega
    · obtain rfl : k = many := by omega
      go_wp2
      go_ret
      exact ⟨A, c, rfl, ho, hl⟩
set_option maxRecDepth 100000 in
set_option maxHeartbeats 4000000 in
theorem refSector_any (sz ep i page m : Nat) (last : Bool) (G : Nat → Nat) (w : World) (hs1 : 64 ≤ sz) (hs2 : sz ≤ 4096) (he1 : 1 ≤ ep) (he : ep ≤ 1099511627776) (hi : i ≤ 1000) (hp : page ≤ 9223372036854775807) (hm : m + 45 = sz) (hG : ∀ j, j < m → G j < 256) :
    Calls Try.prog 19 #[.int .i64 sz, .int .i64 ep, .int .i64 i, .agg #[.int .i64 page, .string (strF G m)], .bool last] w fun e w' =>
      ∃ B d, e = .returned (.slice B sz d) ∧ OwnB w' w.heap.size B sz d (secF (sz - 20) (mkN ep i) (9 + m) (loadF page last G)) ∧ Below w.heap.size w w' := by
  obtain ⟨s, hs⟩ : ∃ s, s = strF G m := ⟨_, rfl⟩
  have hsz : s.size = m := by rw [hs]; exact strF_size G m
  obtain ⟨W0, hW0⟩ : ∃ W0 : World, W0 = w.alloc (.cells #[.int .i64 page, .string s] 47) := ⟨_, rfl⟩
  have l0 : Below w.heap.size w W0 := by rw [hW0]; exact (Below.refl _ _).alloc (Nat.le_refl _) _
  have c0 : W0.cell? ⟨w.heap.size, 0, none⟩ = some (.int .i64 page) := by rw [hW0]; simp
  have c1 : W0.cell? ⟨w.heap.size, 1, none⟩ = some (.string s) := by rw [hW0]; simp
  have hz0 : w.heap.size < W0.heap.size := by rw [hW0]; simp
  have H0 := Lib.hid hW0
  have L0 := Lib.hid l0
  have C1 := Lib.hid (show ∀ W, Below W0.heap.size W0 W → W.cell? ⟨w.heap.size, 1, none⟩ = some (.string s) from fun W l => kept_l l hz0 c1)
  have HS := Lib.hid hs
  rw [← hs]
  have hmk := mkN_lt (ep := ep) (i := i) he (by omega)
  have hmk1 : IntKind.i64.wrap (2097152 * (ep : Int)) = 2097152 * (ep : Int) := by rw [IntKind.wrap_i64]; omega
  have hmk2 : IntKind.i64.wrap (2097152 * (ep : Int) + (i : Int)) = 2097152 * (ep : Int) + (i : Int) := by rw [IntKind.wrap_i64]; omega
  have hmk3 : IntKind.i64.wrap (2097152 * (ep : Int) + (i : Int) + 1) = ((mkN ep i : Nat) : Int) := by rw [IntKind.wrap_i64]; unfold mkN; omega
  clear hW0 hs l0
  go_enter Try.func19, Try.ntmps19
  go_upto_region 1 with (fail)
  rw [← H0.out]
  go_wp2_with fail
  refine (refBytes_big page 8 W0 (by omega) (by omega)).mono ?_
  rintro e W1 ⟨A1, d1, rfl, o1, l1⟩
  have O1 := Lib.hid o1
  have L1 := Lib.hid l1
  have hz1 := l1.size
  clear o1 l1
  cases last
  case false =>
    have L12 : Hid (Below w.heap.size w W1) := Lib.hid (L0.out.trans (L1.out.mono L0.out.size))
    go_wp2_with (at_builtin; with_reducible refine wpList_push W1 rfl _ _ 42 rfl Try.underlying42 u8infoAll W0.heap.size _ _ _ _ rfl O1.out _ rfl ?d1 ?d2 ?d3 hz1 ?d4)
    case d1 => omega
    case d2 => omega
    case d3 => omega
    case d4 =>
      intro A2 c2 W2 o2 lq
      have O2 := Lib.hid (show OwnB W2 W0.heap.size A2 9 c2 (loadF page false G) from o2.congr fun i hi => by
        unfold pushF loadF
        by_cases h : i < 8
        · rw [if_pos h, if_pos h]
        · rw [if_neg h, if_neg h, if_pos (by omega)]; rfl)
      have L2 := Lib.hid (show Below W0.heap.size W0 W2 from L1.out.trans lq)
      have hz2 := L2.out.size
      clear o2 lq
      have k1 := C1.out _ L2.out
      have hcv := run_bytes_of_string W2 9 42 5 s Try.underlying9 Try.underlying42 Try.underlying5
      rw [hsz] at hcv
      obtain ⟨cap, hcap⟩ : ∃ c, c = grownCap W2 m 0 5 := ⟨_, rfl⟩
      rw [← hcap] at hcv
      obtain ⟨fr, hfr⟩ : ∃ f, f = ((bytesRow s cap).size, (bytesRow s cap).size + 1) := ⟨_, rfl⟩
      rw [← hfr] at hcv
      have l3 : Below W2.heap.size W2 (W2.drew.alloc (.cells (bytesRow s cap) 5 fr)) := ((Below.refl _ _).drew).alloc (Nat.le_refl _) _
      have HB := Lib.hid (show Bytes (W2.drew.alloc (.cells (bytesRow s cap) 5 fr)) (some ⟨W2.heap.size, 0, none⟩) m G by rw [HS.out]; exact str_bytes W2 cap fr hG (by omega))
      have L3 := Lib.hid l3
      have O3 := Lib.hid (O2.out.below l3)
      clear hcap hfr l3
      go_wp2_with (at_builtin; refine wpList_append_bytes _ rfl _ _ 42 rfl Try.underlying42 u8infoAll W0.heap.size _ _ _ _ rfl O3.out _ _ _ _ rfl HB.out ?x0 ?x1 ?x3 ?x2)
      case x0 => intro e; cases e
      case x1 => omega
      case x3 => exact Nat.le_trans hz2 L3.out.size
      case x2 =>
        intro A4 c4 W4 o4 g4 _
        have O4 := Lib.hid (show OwnB W4 W0.heap.size A4 (9 + m) c4 (loadF page false G) from o4.congr fun i hi => by
          unfold catF
          by_cases h : i < 9
          · rw [if_pos h]
          · rw [if_neg h]
            unfold loadF
            rw [if_neg (by omega), if_neg (by omega)])
        have L4 := Lib.hid (show Below W0.heap.size W0 W4 from (L2.out.trans (L3.out.mono hz2)).grown g4 (Nat.le_trans hz2 L3.out.size) fun j hj => (O3.out.base_le hj).1)
        clear o4 g4 k1 hcv
        have KB := Lib.hid (refBuild_ok sz (sz - 20) (mkN ep i) (9 + m) c4 A4 (loadF page false G) W4 (by omega) (by omega) (by omega) (by omega) hmk.1 hmk.2 (by omega) O4.out.bytes O4.out.nil_)
        go_wp2_with fail
        refine KB.out.mono ?_
        rintro e W5 ⟨B, d, rfl, o5, l5⟩
        have O5 := Lib.hid o5
        have L5 := Lib.hid l5
        clear o5 l5
        go_wp2
        go_ret
        exact ⟨B, d, rfl, OwnB.low O5.out (Nat.le_trans L0.out.size L4.out.size), L0.out.trans ((L4.out.trans (L5.out.mono L4.out.size)).mono L0.out.size)⟩
  case true =>
    have L12 : Hid (Below w.heap.size w W1) := Lib.hid (L0.out.trans (L1.out.mono L0.out.size))
    go_wp2_with (at_builtin; with_reducible refine wpList_push W1 rfl _ _ 42 rfl Try.underlying42 u8infoAll W0.heap.size _ _ _ _ rfl O1.out _ rfl ?d1 ?d2 ?d3 hz1 ?d4)
    case d1 => omega
    case d2 => omega
    case d3 => omega
    case d4 =>
      intro A2 c2 W2 o2 lq
      have O2 := Lib.hid (show OwnB W2 W0.heap.size A2 9 c2 (loadF page true G) from o2.congr fun i hi => by
        unfold pushF loadF
        by_cases h : i < 8
        · rw [if_pos h, if_pos h]
        · rw [if_neg h, if_neg h, if_pos (by omega)]; rfl)
      have L2 := Lib.hid (show Below W0.heap.size W0 W2 from L1.out.trans lq)
      have hz2 := L2.out.size
      clear o2 lq
      have k1 := C1.out _ L2.out
      have hcv := run_bytes_of_string W2 9 42 5 s Try.underlying9 Try.underlying42 Try.underlying5
      rw [hsz] at hcv
      obtain ⟨cap, hcap⟩ : ∃ c, c = grownCap W2 m 0 5 := ⟨_, rfl⟩
      rw [← hcap] at hcv
      obtain ⟨fr, hfr⟩ : ∃ f, f = ((bytesRow s cap).size, (bytesRow s cap).size + 1) := ⟨_, rfl⟩
      rw [← hfr] at hcv
      have l3 : Below W2.heap.size W2 (W2.drew.alloc (.cells (bytesRow s cap) 5 fr)) := ((Below.refl _ _).drew).alloc (Nat.le_refl _) _
      have HB := Lib.hid (show Bytes (W2.drew.alloc (.cells (bytesRow s cap) 5 fr)) (some ⟨W2.heap.size, 0, none⟩) m G by rw [HS.out]; exact str_bytes W2 cap fr hG (by omega))
      have L3 := Lib.hid l3
      have O3 := Lib.hid (O2.out.below l3)
      clear hcap hfr l3
      go_wp2_with (at_builtin; refine wpList_append_bytes _ rfl _ _ 42 rfl Try.underlying42 u8infoAll W0.heap.size _ _ _ _ rfl O3.out _ _ _ _ rfl HB.out ?x0 ?x1 ?x3 ?x2)
      case x0 => intro e; cases e
      case x1 => omega
      case x3 => exact Nat.le_trans hz2 L3.out.size
      case x2 =>
        intro A4 c4 W4 o4 g4 _
        have O4 := Lib.hid (show OwnB W4 W0.heap.size A4 (9 + m) c4 (loadF page true G) from o4.congr fun i hi => by
          unfold catF
          by_cases h : i < 9
          · rw [if_pos h]
          · rw [if_neg h]
            unfold loadF
            rw [if_neg (by omega), if_neg (by omega)])
        have L4 := Lib.hid (show Below W0.heap.size W0 W4 from (L2.out.trans (L3.out.mono hz2)).grown g4 (Nat.le_trans hz2 L3.out.size) fun j hj => (O3.out.base_le hj).1)
        clear o4 g4 k1 hcv
        have KB := Lib.hid (refBuild_ok sz (sz - 20) (mkN ep i) (9 + m) c4 A4 (loadF page true G) W4 (by omega) (by omega) (by omega) (by omega) hmk.1 hmk.2 (by omega) O4.out.bytes O4.out.nil_)
        go_wp2_with fail
        refine KB.out.mono ?_
        rintro e W5 ⟨B, d, rfl, o5, l5⟩
        have O5 := Lib.hid o5
        have L5 := Lib.hid l5
        clear o5 l5
        go_wp2
        go_ret
        exact ⟨B, d, rfl, OwnB.low O5.out (Nat.le_trans L0.out.size L4.out.size), L0.out.trans ((L4.out.trans (L5.out.mono L4.out.size)).mono L0.out.size)⟩
end Go.Proofs.Ytmikemijdglgaaa
/- LogReads, plain: what is written, what is read of it, what is left; and the law's row of sectors. -/
namespace Go.Proofs.Ytmikemijdglgaaa
open Go.RowKit
set_option linter.unusedVariables false
set_option linter.unusedSimpArgs false

/-- May a slot's sector be made? -/
def okSl (x : SltD) : Bool := decide (1 ≤ x.ep ∧ x.ep ≤ 1099511627776 ∧ 0 ≤ x.at_ ∧ x.at_ < 100 ∧ 0 ≤ x.page)
/-- The sector that stands in a slot. -/
def slF (x : SltD) : Nat → Nat := if x.raw = true then copyF (fun _ => 0) 0 (Nat.min x.m 64) x.F else if okSl x = true then secF 44 (mkN x.ep.toNat x.at_.toNat) 28 (loadF x.page.toNat (decide (x.last % 2 = 1)) (fun _ => x.last)) else fun _ => 0
/-- What is written is read as it was written. -/
theorem wrS_now {S : DS} (h : Up S) (a : Nat) (sec : Nat → Nat → Nat) : ∀ k, a + k ≤ S.N → ∀ i, i < k → (wrS a S.size sec S k).now (a + i) = sec i := by
  intro k
  induction k with
  | zero => exact fun _ i hi => absurd hi (Nat.not_lt_zero _)
  | succ k ih =>
    intro hk i hi
    have hu := h.wr a S.size sec k
    have hsz := wrS_sz a S.size sec S k
    have hn := wrS_N a S.size sec S k
    show (putS (wrS a S.size sec S k) ((a + k : Nat) : Int) S.size (sec k)).now (a + i) = sec i
    by_cases q : i = k
    · subst q
      have := putS_own (wrS a S.size sec S i) (a + i) (sec i) hu.d (by rw [hn]; omega)
      rw [hsz] at this
      exact this
    · rw [putS_now _ _ _ _ _ (by omega)]
      exact ih (by omega) i (by omega)
/-- Both readings of a slot. -/
theorem page_same {F : Nat → Nat} (hF : ∀ j, j < 64 → F j < 256) : (0 ≤ pageI F ∧ pageI F ≤ 2147483647) ↔ pgN F ≤ 2147483647 := by
  have h := leTo_lt (F := fun j => F (16 + j)) (n := 8) (fun i hi => hF _ (by omega))
  have h8 : (256 : Nat) ^ 8 = 18446744073709551616 := by decide
  rw [h8] at h
  unfold pageI takeI pgN
  rw [IntKind.wrap_i64]
  omega
theorem page_eq {F : Nat → Nat} (h : pgN F ≤ 2147483647) : pageI F = (pgN F : Nat) := by
  unfold pageI takeI
  unfold pgN at h ⊢
  rw [IntKind.wrap_i64]
  omega
theorem good_iff {T : DS} {Fs : Nat → Nat → Nat} {ep i : Nat} (hs : T.size = 64) (hn : T.now (1 + i) = Fs i) (hF : ∀ j, j < 64 → Fs i j < 256) : chAt T 1 ep i ↔ goodN Fs ep i := by
  unfold chAt isCh goodN
  rw [hs, hn]
  have h := page_same hF
  constructor
  · rintro ⟨a, b, c, d⟩; exact ⟨a, h.1 ⟨b, c⟩, d⟩
  · rintro ⟨a, b, c⟩; exact ⟨a, (h.2 b).1, (h.2 b).2, c⟩
theorem read_same {T : DS} {Fs : Nat → Nat → Nat} {ep : Nat} (hs : T.size = 64) : ∀ k, (∀ i, i < k → T.now (1 + i) = Fs i) → (∀ i, i < k → goodN Fs ep i) → dTo (lastB T 1) (dcOf T 1) k = gN Fs k := by
  intro k
  induction k with
  | zero => exact fun _ _ => rfl
  | succ k ih =>
    intro hn hg
    have h1 := ih (fun i hi => hn i (by omega)) (fun i hi => hg i (by omega))
    have h2 : dcOf T 1 k = dcN (Fs k) := by
      unfold dcOf dcN
      rw [hs, hn k (by omega), page_eq (hg k (by omega)).2.1]
    have h3 : lastB T 1 k = decide (Fs k 24 = 1) := by unfold lastB flagN; rw [hn k (by omega)]
    rw [dTo, gN, h1, h2, h3]
    by_cases q : Fs k 24 = 1
    · rw [if_pos q, if_pos (by simpa using q)]
    · rw [if_neg q, if_neg (by simpa using q)]
theorem first_same {P : Nat → Prop} {n k t : Nat} (hk : k ≤ n) (h1 : ∀ i, i < k → P i) (h2 : k < n → ¬ P k) (ht : t ≤ n) (h3 : ∀ i, i < t → P i) (h4 : t = n ∨ ¬ P t) : t = k := by
  rcases Nat.lt_trichotomy t k with q | q | q
  · rcases h4 with h4 | h4
    · omega
    · exact absurd (h1 t q) h4
  · exact q
  · exact absurd (h3 k q) (h2 (by omega))
theorem lat_same {T : DS} {Fs : Nat → Nat → Nat} (hs : T.size = 64) : ∀ n, (∀ i, i < n → T.now (1 + i) = Fs i) → latOf T 1 (List.range n) = latN Fs n := by
  intro n
  induction n with
  | zero => exact fun _ => rfl
  | succ k ih =>
    intro hn
    rw [List.range_succ, latOf_snoc, ih (fun i hi => hn i (by omega)), hs, hn k (by omega)]
    rfl
/-- Clean, of a disk that nothing lets go down. -/
theorem clS_Up {S : DS} (h : Up S) (first : Nat) : ∀ k, Up (clS S first k)
  | 0 => h
  | k + 1 => by
    unfold clS
    split
    · exact (clS_Up h first k).put _ _ _
    · exact clS_Up h first k
theorem clI_Up {S : DS} (h : Up S) (first k : Nat) (hk : first + k < S.N) : clI S first k = 0 := by
  unfold clI
  split
  · have := (clS_Up h first k).putI (a := first + k) (by rw [clS_N]; exact hk) (fun _ => 0)
    rw [clS_size] at this
    exact this
  · rfl
theorem clS_succ (S : DS) (first k : Nat) : clS S first (k + 1) = if dirtyB S first k = true then putS (clS S first k) ((first + k : Nat) : Int) S.size (fun _ => 0) else clS S first k := rfl
theorem clS_last {S : DS} (h : Up S) (first k : Nat) (hk : first + k < S.N) : (clS S first (k + 1)).now (first + k) = if dirtyB S first k = true then fun _ => 0 else S.now (first + k) := by
  have h1 := clS_now S first k (first + k) (Nat.le_refl _)
  have h2 := clS_size S first k
  have h3 := clS_N S first k
  have h4 := clS_Up h first k
  rw [clS_succ]
  generalize clS S first k = T at h1 h2 h3 h4 ⊢
  by_cases hd : dirtyB S first k = true
  · rw [if_pos hd, if_pos hd, ← h2]
    exact putS_own T (first + k) (fun _ => 0) h4.d (by omega)
  · rw [if_neg hd, if_neg hd]
    exact h1
theorem clS_step (S : DS) (first k j : Nat) (hj : j ≠ first + k) : (clS S first (k + 1)).now j = (clS S first k).now j := by
  rw [clS_succ]
  generalize clS S first k = T
  split
  · exact putS_now _ _ _ _ _ hj
  · rfl
theorem clS_at {S : DS} (h : Up S) (first i k : Nat) : i < k → first + k ≤ S.N → (clS S first k).now (first + i) = if dirtyB S first i = true then fun _ => 0 else S.now (first + i) := by
  induction k with
  | zero => exact fun hi _ => absurd hi (Nat.not_lt_zero _)
  | succ k ih =>
    intro hi hk
    by_cases q : i = k
    · subst q
      exact clS_last h first i (by omega)
    · exact (clS_step S first k (first + i) (by omega)).trans (ih (by omega) (by omega))
/-- What is left of a slot is what the law wants of it. -/
def wantF (Fs : Nat → Nat → Nat) (i : Nat) : Nat → Nat := if epochN (Fs i) 44 i = 0 then fun _ => 0 else Fs i
theorem left_want {S : DS} {Fs : Nat → Nat → Nat} {n i : Nat} (h : Up S) (hs : S.size = 64) (hN : 1 + n ≤ S.N) (hi : i < n) (hn : S.now (1 + i) = Fs i) (hF : ∀ j, j < 64 → Fs i j < 256) : strF ((flushD (clS S 1 n)).now (1 + i)) 64 = strF (wantF Fs i) 64 := by
  have e : (flushD (clS S 1 n)).now = (clS S 1 n).now := by rw [(clS_Up h 1 n).flush]
  rw [e, clS_at h 1 i n hi hN]
  unfold wantF dirtyB
  rw [hs, hn]
  by_cases h0 : epochN (Fs i) 44 i = 0
  · rw [if_pos h0, decide_eq_true h0]
    by_cases hq : ((strF (Fs i) 64).toList == (strF (fun _ => 0) 64).toList) = true
    · rw [hq, if_neg (by simp)]
      have h2 : (strF (Fs i) 64).data.toList = (strF (fun _ => 0) 64).data.toList := by
        have h3 := beq_iff_eq.1 hq
        have h4 : ∀ b : ByteArray, b.toList = b.data.toList := fun b => ByteArray.toList_eq b
        rw [h4, h4] at h3
        exact h3
      exact strF_congr (strF_inj hF (fun _ _ => by omega) h2)
    · have hq2 : ((strF (Fs i) 64).toList == (strF (fun _ => 0) 64).toList) = false := by simpa using hq
      rw [hq2, if_pos (by simp)]
  · rw [if_neg h0, decide_eq_false h0, if_neg (by simp)]
/-- A block of a sector's 64 bytes. -/
def UB (W : World) (b : Nat) (F : Nat → Nat) : Prop := (∃ cs, W.heap[b]? = some (.cells cs 5 (0, 0))) ∧ Bytes W (some ⟨b, 0, none⟩) 64 F
theorem UB.same {W W' : World} {b : Nat} {F : Nat → Nat} (h : UB W b F) (k : W'.heap[b]? = W.heap[b]?) : UB W' b F := by
  obtain ⟨⟨cs, hc⟩, hb⟩ := h
  exact ⟨⟨cs, k.trans hc⟩, hb.keep fun b' o e _ => by injection e with e; injection e with e _ _; subst e; exact k⟩
theorem UB.lt {W : World} {b : Nat} {F : Nat → Nat} (h : UB W b F) : b < W.heap.size := by
  obtain ⟨⟨cs, hc⟩, _⟩ := h
  exact (Array.getElem?_eq_some_iff.1 hc).1
theorem UB.row {W : World} {b n : Nat} {F : Nat → Nat} (h : BRow W b n F) (hn : 64 ≤ n) : UB W b F := by
  obtain ⟨cs, hc, _⟩ := id h.1
  exact ⟨⟨cs, hc⟩, (h.bytes (o := 0) (m := 64) (by omega)).congr fun i _ => by rw [Nat.zero_add]⟩
theorem UB.own {W : World} {base d : Nat} {A : Option Addr} {F : Nat → Nat} (h : OwnB W base A 64 d F) : ∃ b, A = some ⟨b, 0, none⟩ ∧ base ≤ b ∧ UB W b F := by
  rcases h.1.2 with ⟨e, hn⟩ | ⟨g, cap, cur, e, h1, h2, _⟩
  · omega
  · injection e with e _ _
    subst e
    exact ⟨g, rfl, h1, ⟨⟨cur, h2⟩, h.bytes⟩⟩
/-- The law's row of sectors. -/
def SBx (base k : Nat) (Fs : Nat → Nat → Nat) (v : Value) (xs : List Value) (W : World) : Prop :=
  W.ownsRow base 42 1 v k xs ∧ ∀ i, i < k → ∃ b c, xs[i]? = some (.slice (some ⟨b, 0, none⟩) 64 c) ∧ 64 ≤ c ∧ c ≤ 9223372036854775807 ∧ UB W b (Fs i)
def SB (base k : Nat) (Fs : Nat → Nat → Nat) (v : Value) (W : World) : Prop := ∃ xs, SBx base k Fs v xs W
theorem SB.nil_ (base : Nat) (Fs : Nat → Nat → Nat) (W : World) : SB base 0 Fs (.slice none 0 0) W := ⟨[], World.ownsRow_nil _ _ _ _, fun i hi => absurd hi (Nat.not_lt_zero _)⟩
theorem SB.below {base k : Nat} {Fs : Nat → Nat → Nat} {v : Value} {W W' : World} (h : SB base k Fs v W) (l : Below W.heap.size W W') : SB base k Fs v W' := by
  obtain ⟨xs, h1, h2⟩ := h
  refine ⟨xs, own_belowR h1 l, fun i hi => ?_⟩
  obtain ⟨b, c, e, q1, q2, q3⟩ := h2 i hi
  exact ⟨b, c, e, q1, q2, q3.same (l.block b q3.lt)⟩
theorem SB.turns [Spare] {base k bd : Nat} {Fs : Nat → Nat → Nat} {v u : Value} {W W' : World} {M : DM} {S : DS} (h : SB base k Fs v W) (d : Dsk W bd { M with vl := u } S) (t : Turns bd { M with vl := u } W W') (hM : M.p < base ∧ M.bf < base ∧ M.bn < base) : SB base k Fs v W' := by
  obtain ⟨xs, h1, h2⟩ := h
  refine ⟨xs, own_blockeq h1 fun q cs hq hc => ?_, fun i hi => ?_⟩
  · have hb := (own_typed h1 hq).1
    exact (t.block q (Array.getElem?_eq_some_iff.1 hc).1 (by show q ≠ M.p; omega) (by show q ≠ M.bf; omega) (by show q ≠ M.bn; omega) (d.ownOff hc (by decide))).trans hc
  · obtain ⟨b, c, e, q1, q2, q3⟩ := h2 i hi
    obtain ⟨⟨cs, hc⟩, _⟩ := id q3
    obtain ⟨a1, a2, a3, a4⟩ := d.apartB hc
    exact ⟨b, c, e, q1, q2, q3.same (t.block b q3.lt a1 a2 a3 a4)⟩
theorem SBx.push {base k b c : Nat} {Fs : Nat → Nat → Nat} {v v2 : Value} {xs : List Value} {W w9 : World} (h : SBx base k Fs v xs W) (hu : UB W b (Fs k)) (hc : 64 ≤ c) (hc2 : c ≤ 9223372036854775807) (hown : w9.ownsRow base 42 1 v2 (k + 1) (xs ++ [.slice (some ⟨b, 0, none⟩) 64 c])) (hg : W.grownBy w9 v.ownBlock) : SB base (k + 1) Fs v2 w9 := by
  obtain ⟨h1, h2⟩ := h
  have hl : xs.length = k := by have := h1.1; omega
  have keep : ∀ {b : Nat} {F : Nat → Nat}, UB W b F → UB w9 b F := fun {b F} q => by
    obtain ⟨⟨cs, hc⟩, _⟩ := id q
    refine q.same (hg.block b q.lt fun e => ?_)
    obtain ⟨_, cs', hc'⟩ := own_typed h1 e.symm
    rw [hc] at hc'
    injection hc' with hc'
    injection hc' with _ hc' _
    exact absurd hc' (by decide)
  refine ⟨_, hown, fun i hi => ?_⟩
  by_cases q : i < k
  · obtain ⟨b', c', e, q1, q2, q3⟩ := h2 i q
    exact ⟨b', c', by rw [List.getElem?_append_left (by omega)]; exact e, q1, q2, keep q3⟩
  · obtain rfl : i = k := by omega
    exact ⟨b, c, by rw [List.getElem?_append_right (by omega), hl]; simp, hc, hc2, keep hu⟩
theorem SB.srow {base k : Nat} {Fs : Nat → Nat → Nat} {v : Value} {W : World} (h : SB base k Fs v W) (hk : k ≤ 1000) : SRow W k Fs v := by
  obtain ⟨xs, h1, h2⟩ := h
  obtain ⟨A, c, rfl⟩ := own_sl h1
  refine ⟨A, c, rfl, hk, fun i hi => ?_⟩
  obtain ⟨b, c', e, q1, q2, q3⟩ := h2 i hi
  rcases h1.2 with ⟨_, hn⟩ | ⟨g, cap, cur, eg, _⟩
  · omega
  · injection eg with eg _ _
    subst eg
    have hat := World.ownsRow.cellAt (w := W) (base := base) (e := 42) (size := 1) h1 i (by omega)
    exact ⟨g, 0, rfl, b, 0, c', by rw [Nat.zero_add, hat]; exact e, q1, q2, q3.2⟩
/-- The disk is left alone by an append to the row. -/
theorem On.row [Spare] {w0 W w9 : World} {base n2 n : Nat} {v : Value} {xs : List Value} {M : DM} {S : DS} (h : On w0 base M S W) (ho : W.ownsRow n2 42 1 v n xs) (hg : W.grownBy w9 v.ownBlock) (hM : M.p < n2 ∧ M.bf < n2 ∧ M.bn < n2) (hb : base ≤ n2) : On w0 base M S w9 := by
  have ne : ∀ {k : Nat} {cs : Array Value} {t : TypeId}, W.heap[k]? = some (.cells cs t (0, 0)) → t ≠ 42 → some k ≠ v.ownBlock := fun {k cs t} hc ht e => by
    obtain ⟨_, cs', hc'⟩ := own_typed ho e.symm
    rw [hc] at hc'
    injection hc' with hc'
    injection hc' with _ hc' _
    exact ht hc'
  have lo : ∀ {k : Nat}, k < n2 → some k ≠ v.ownBlock := fun {k} hk e => by
    have := (own_typed ho e.symm).1
    omega
  obtain ⟨V, v1, _⟩ := id h.d.vf
  obtain ⟨U, u1, _⟩ := id h.d.vn
  obtain ⟨vs, _, l2, _⟩ := id h.d.lo
  refine ⟨h.d.keep (hg.block _ (Array.getElem?_eq_some_iff.1 h.d.hp).1 (lo hM.1)) (hg.block _ v1.lt (lo hM.2.1)) (hg.block _ u1.lt (lo hM.2.2)) (fun k hk => ?_) (fun g cs _ hc => (hg.block g (Array.getElem?_eq_some_iff.1 hc).1 (ne hc (by decide))).trans hc) hg.size, h.b.grown hg h.le fun k e => ?_, h.z⟩
  · obtain ⟨_, cs, hc⟩ := own_typed l2 hk
    exact hg.block k (Array.getElem?_eq_some_iff.1 hc).1 (ne hc (by decide))
  · have := (own_typed ho e).1
    omega
/-- What Read handed back can be read in whatever world has its blocks. -/
theorem lgs_of {S : DS} {f k cn n0 : Nat} {w' : World} {v : Value} {vs : List Value} {X : Nat → Prop} (hs : 64 ≤ S.size ∧ S.size ≤ 4096) (hcn : cn ≤ 1000000) (hk : k ≤ cn) (hown : w'.ownsRow n0 38 1 v (gTo (lastB S f) k).1.length vs)
    (hgr : ∀ (j : Nat) (u : Value) (g : List Nat), vs[j]? = some u → (gTo (lastB S f) k).1[j]? = some g → GrpX X w' (S.size - 20) (fun i => S.now (f + i)) g u) : LGs w' v (dTo (lastB S f) (dcOf S f) k).1 := by
  have hd : (dTo (lastB S f) (dcOf S f) k).1 = (gTo (lastB S f) k).1.map (List.map (dcOf S f)) := by rw [← gTo_dTo]
  rw [hd]
  have hlen := (gTo_len (lastB S f) k).1
  have hvl : vs.length = (gTo (lastB S f) k).1.length := by have := hown.1; omega
  have hrow : ∀ (j : Nat) (u : Value) (l : List Dc), vs[j]? = some u → ((gTo (lastB S f) k).1.map (List.map (dcOf S f)))[j]? = some l → LRw w' u l := fun j u l a b => by
    rw [List.getElem?_map] at b
    cases hg : (gTo (lastB S f) k).1[j]? with
    | none => rw [hg] at b; cases b
    | some g =>
      rw [hg] at b
      simp only [Option.map_some, Option.some.injEq] at b
      subst b
      obtain ⟨b, c, ls, rfl, hx, h1, h2, hrow, hcell⟩ := hgr j u g a hg
      have hls := hrow.1
      have hgl : g.length ≤ 1000000 := by
        have hmem := List.mem_of_getElem? hg
        have := gTo_mem (lastB S f) k g hmem
        omega
      refine ⟨some ⟨b, 0, none⟩, c, by rw [List.length_map], by rw [List.length_map]; exact hgl, fun _ => ⟨b, 0, rfl, fun i y hy => ?_⟩⟩
      rw [List.getElem?_map] at hy
      cases hgi : g[i]? with
      | none => rw [hgi] at hy; cases hy
      | some s =>
        rw [hgi] at hy
        simp only [Option.map_some, Option.some.injEq] at hy
        subst hy
        have hil : i < ls.length := by rw [hls]; exact (List.getElem?_eq_some_iff.1 hgi).1
        have hl := List.getElem?_eq_getElem hil
        obtain ⟨hp, b', o', d', hv', hXb, hd1, hd2, hby⟩ := hrow.2 i s _ hgi hl
        obtain ⟨q1, q2⟩ := chCells_at hl
        rw [Nat.zero_add]
        refine ⟨?_, some ⟨b', o', none⟩, S.size - 20 - 25, d', fun j => S.now (f + s) (25 + j), ?_, hby, ?_⟩
        · rw [hcell _ _ q1, hp]; rfl
        · rw [hcell _ _ q2, hv']
        · unfold dcOf
          rw [show S.size - 20 - 25 = S.size - 45 by omega]
  obtain ⟨A, c, rfl⟩ := own_sl hown
  have h0 := hown
  refine ⟨A, c, vs, by rw [List.length_map], by rw [List.length_map]; exact hvl, by rw [List.length_map]; omega, fun hne => ?_, hrow⟩
  rw [List.length_map] at hne
  rcases hown.2 with ⟨_, h⟩ | ⟨q, cap, cur, e, _⟩
  · omega
  · injection e with e _ _
    subst e
    exact ⟨q, 0, rfl, fun j u hu => by
      rw [Nat.zero_add, ← hu]
      exact World.ownsRow.cellAt (w := w') (base := n0) (e := 38) (size := 1) h0 j (by have := (List.getElem?_eq_some_iff.1 hu).1; omega)⟩
theorem read_lgs2 {S : DS} {f cn ep : Nat} {w w' : World} {e : Ending} (hs : 64 ≤ S.size ∧ S.size ≤ 4096) (hcn : cn ≤ 1000000) (h : ReadP S f cn ep w e w') : ∃ k v, k ≤ cn ∧ (∀ i, i < k → chAt S f ep i) ∧ (k < cn → ¬ chAt S f ep k) ∧ e = .returned (.tuple #[v, .int .i64 0]) ∧ (∀ W, (∀ b, w.heap.size ≤ b → b < w'.heap.size → W.heap[b]? = w'.heap[b]?) → LGs W v (dTo (lastB S f) (dcOf S f) k).1) ∧ Below w.heap.size w w' := by
  obtain ⟨⟨k, v, vs, X, hk, hch, hno, he, hown, hgr, hX⟩, hb⟩ := h
  refine ⟨k, v, hk, hch, hno, he, fun W hW => ?_, hb⟩
  refine lgs_of (n0 := w.heap.size) (vs := vs) (X := X) hs hcn hk (own_blockeq hown fun q cs hq hc => ?_) (fun j u g a b => (hgr j u g a b).keep (KeepX.heap fun b hb => hW b (hX b hb).1 (hX b hb).2.1) fun _ x => x)
  exact (hW q (own_typed hown hq).1 (Array.getElem?_eq_some_iff.1 hc).1).trans hc
end Go.Proofs.Ytmikemijdglgaaa
