/- hash's joined. -/
import Derived.Test.YtihigingddaopaaDoorHCmp
import Derived.Laws.OwnMore
import Derived.Deep.MidRow
import Derived.BigRegion
import Derived.BigQuiet
import Derived.Deep.QuietTactic
namespace Go.Proofs.YtihigingddaopaaDoor
open Go.RowKit
set_option linter.unusedVariables false
set_option linter.unusedSimpArgs false

open Go.Shelf
attribute [local go_sem] Oper.semAt_some
def rowR (S : List Rg) : List Value := S.flatMap encC
theorem rowR_len (S : List Rg) : (rowR S).length = S.length * 2 := by
  unfold rowR
  induction S with
  | nil => rfl
  | cons w l ih => rw [List.flatMap_cons, List.length_append, ih]; simp [encC]; omega
theorem rowR_snoc (ini : List Rg) (r : Rg) : rowR (ini ++ [r]) = rowR ini ++ encC r := by simp [rowR]
theorem rowR_get (ini : List Rg) (r : Rg) (j : Nat) : (rowR (ini ++ [r]))[ini.length * 2 + j]? = (encC r)[j]? := by
  rw [rowR_snoc, List.getElem?_append_right (by rw [rowR_len]; omega), rowR_len]
  congr 1
  omega
theorem rowR_at : ∀ (S : List Rg) (i : Nat) (r : Rg), S[i]? = some r → ∀ j, j < 2 → (rowR S)[i * 2 + j]? = (encC r)[j]?
  | [], i, r, h, _, _ => by simp at h
  | y :: t, 0, r, h, j, hj => by
    simp at h
    subst h
    unfold rowR
    rw [List.flatMap_cons, List.getElem?_append_left (by simp [encC]; omega)]
    simp
  | y :: t, i + 1, r, h, j, hj => by
    have ih := rowR_at t i r (by simpa using h) j hj
    unfold rowR at ih ⊢
    rw [List.flatMap_cons, List.getElem?_append_right (by simp [encC]; omega)]
    have : (i + 1) * 2 + j - (encC y).length = i * 2 + j := by simp [encC]; omega
    rw [this, ih]
theorem rowR_set (ini : List Rg) (l : Rg) (h : Nat) : (rowR (ini ++ [l])).set (ini.length * 2 + 1) (.int .u64 (h : Nat)) = rowR (ini ++ [(l.1, h)]) := by
  rw [rowR_snoc, rowR_snoc, List.set_append_right _ _ (by rw [rowR_len]; omega), rowR_len]
  have : ini.length * 2 + 1 - ini.length * 2 = 1 := by omega
  rw [this]
  rfl
theorem infoRg : (Tryd.prog.info? 30).map (fun i => (i.zero, i.size, i.bytes)) = some (some (.agg #[.int .u64 0, .int .u64 0]), 2, 16) := by kernel_rfl
/-- Ranges that can be read. -/
def RdG (W : World) (g o : Nat) (S : List Rg) : Prop := ∀ i r, S[i]? = some r → W.cell? ⟨g, o + i * 2, none⟩ = some (.int .u64 (r.1 : Nat)) ∧ W.cell? ⟨g, o + i * 2 + 1, none⟩ = some (.int .u64 (r.2 : Nat))
theorem RdG.below {W W' : World} {g o : Nat} {S : List Rg} (h : RdG W g o S) (hb : Below W.heap.size W W') : RdG W' g o S := fun i r hi => ⟨kp' hb (cell_lt' (h i r hi).1) (h i r hi).1, kp' hb (cell_lt' (h i r hi).2) (h i r hi).2⟩
theorem asc_take {S : List Rg} (h : Asc S) (k : Nat) : Asc (S.take k) := ⟨h.1.sublist (List.take_sublist k S), fun r hr => h.2 r (List.mem_of_mem_take hr)⟩
theorem take_snocR {S : List Rg} {k : Nat} {r : Rg} (h : S[k]? = some r) : S.take (k + 1) = S.take k ++ [r] := by rw [List.take_add_one, h]; rfl
theorem join_top {S ini : List Rg} {k : Nat} {r l : Rg} (hA : Asc S) (h : S[k]? = some r) (hj : joinL (S.take k) = ini ++ [l]) : l.2 < r.1 := by
  have J := join_good (asc_take hA k)
  rw [hj] at J
  obtain ⟨q, hq, e⟩ := J.top l (by simp)
  have := asc_take hA (k + 1)
  rw [take_snocR h] at this
  rw [e]
  exact (asc_pre this).2.1 q hq
theorem join_le (S : List Rg) (hA : Asc S) (k : Nat) : (joinL (S.take k)).length ≤ k := Nat.le_trans (join_good (asc_take hA k)).len (by rw [List.length_take]; omega)
theorem getR {l : List Rg} {i : Nat} (h : i < l.length) : ∃ x, l[i]? = some x := ⟨l[i], List.getElem?_eq_getElem h⟩
theorem cells_new2 (W : World) (a b : Value) (T : TypeId) : ∀ (j : Nat) (u : Value), [a, b][j]? = some u → (W.alloc (.cells #[a, b] T)).cell? ((⟨W.heap.size, 0, none⟩ : Addr).add j) = some u := by
  intro j u h
  rw [Addr.add_mid, Nat.zero_add]
  rcases j with _ | _ | j
  · simp at h ⊢; exact h
  · simp at h ⊢; exact h
  · simp at h
theorem cells_at2 (W : World) (a b : Value) (T : TypeId) (p : Nat) (hp : W.heap.size = p) : ∀ (j : Nat) (u : Value), [a, b][j]? = some u → (W.alloc (.cells #[a, b] T)).cell? ((⟨p, 0, none⟩ : Addr).add j) = some u := by
  subst hp
  exact cells_new2 W a b T
theorem own_q {w : World} {base e size n : Nat} {v : Value} {xs : List Value} (h : w.ownsRow base e size v n xs) (k : Nat) : (w.drewN k).ownsRow base e size v n xs := h
theorem below_q {B : Nat} {w W : World} (h : Below B w W) (k : Nat) : Below B w (W.drewN k) := h.trans ⟨rfl, rfl, rfl, Nat.le_refl _, fun _ _ => rfl⟩
theorem own_fz {W : World} {base e size n cp b : Nat} {xs : List Value} (h : W.ownsRow base e size (.slice (some ⟨b, 0, none⟩) n cp) n xs) (j : Nat) : W.frozen? ⟨b, j, none⟩ = false := by
  rcases h.2 with ⟨hv, _⟩ | ⟨g', cap', cur, hv, _, hg, _⟩
  · cases hv
  · injection hv with hv _ _
    injection hv with hv
    injection hv with hv _ _
    subst hv
    simp [World.frozen?, hg]
set_option maxRecDepth 100000 in
set_option maxHeartbeats 16000000 in
theorem joined_any (S : List Rg) (hA : Asc S) (hS : S.length ≤ 64) (hT : ∀ r ∈ S, r.2 < 18446744073709551616) (g o cap : Nat) (w : World) (hR : RdG w g o S) :
    Calls Tryd.prog 14 #[.slice (some ⟨g, o, none⟩) S.length cap] w fun e w' => ∃ v, e = .returned v ∧ w'.ownsRow w.heap.size 30 2 v (joinL S).length (rowR (joinL S)) ∧ Below w.heap.size w w' := by
  have HR := Lib.hid hR
  have HA := Lib.hid hA
  have HT := Lib.hid hT
  clear hR hA hT
  obtain ⟨n, hn⟩ : ∃ n, n = S.length := ⟨_, rfl⟩
  rw [← hn] at hS ⊢
  have HN := Lib.hid hn
  clear hn
  obtain ⟨i0, hi0, hz0, hz1, hz2⟩ := info_parts infoRg
  go_enter Tryd.func14, Tryd.ntmps14
  go_wp2
  go_loopw [3, 9] (fun v i wr => (∃ k : Nat, k ≤ n ∧ i = .int .i64 k ∧ wr.ownsRow w.heap.size 30 2 v (joinL (S.take k)).length (rowR (joinL (S.take k))) ∧ (joinL (S.take k) = [] → v = .slice none 0 0)) ∧ Below w.heap.size w wr) (fun _ i _ => n - (intOf i).toNat)
  case atStart => exact ⟨⟨0, by omega, rfl, World.ownsRow_nil w _ _ 2, fun _ => rfl⟩, Below.refl _ _⟩
  case round =>
    obtain ⟨⟨k, hk, rfl, hown, hnil⟩, hB⟩ := hrel
    have HB := Lib.hid hB
    by_cases hlt : k < n
    · obtain ⟨r, hr⟩ := getR (show k < S.length by rw [← HN.out]; exact hlt)
      have hc := HR.out k r hr
      have c0 := kp' HB.out (cell_lt' hc.1) hc.1
      have c1 := kp' HB.out (cell_lt' hc.2) hc.2
      have HJ := Lib.hid (show joinL (S.take (k + 1)) = jstep (joinL (S.take k)) r by rw [take_snocR hr, join_snoc])
      have hle := join_le S HA.out k
      have HTop := Lib.hid fun ini l => join_top (ini := ini) (l := l) HA.out hr
      have hr2 := HT.out r (List.mem_of_getElem? hr)
      have hr1 := HA.out.2 r (List.mem_of_getElem? hr)
      have hsz : w.heap.size ≤ wr.heap.size := HB.out.size
      obtain ⟨out, ho⟩ : ∃ out, out = joinL (S.take k) := ⟨_, rfl⟩
      rw [← ho] at hown HJ hle HTop hnil
      obtain ⟨rl, rh⟩ := r
      dsimp only at c0 c1 hr1 hr2 HTop
      clear ho hr hc hB
      rcases snoc_cases out with rfl | ⟨ini, l, rfl⟩
      · have hv := hnil rfl
        subst hv
        have HO := Lib.hid (show wr.ownsRow w.heap.size 30 2 (.slice none 0 0) 0 [] from hown)
        rw [jstep_nil] at HJ
        clear hown hnil hle HTop
        go_wp2
        go_quiet (fail)
        go_wp2_with (at_builtin; refine wpList_append_own _ rfl _ _ 24 rfl w.heap.size 30 i0 (.agg #[.int .u64 0, .int .u64 0]) 2 16 Tryd.underlying24 hi0 hz0 hz1 hz2 rfl (by decide) _ _ _ rfl ((own_q (HO.out.alloc _) _).alloc _) ⟨wr.heap.size + 1, 0, none⟩ 1 1 [.int .u64 (rl : Nat), .int .u64 (rh : Nat)] rfl rfl (cells_at2 _ _ _ _ _ (by simp)) (by simp [Value.oneCell']) (by unfold maxLen; omega) (by omega) (by first | omega | (simp; omega)) ?_; intro v2 w1 hown2 hgrow _)
        have B2 : Below w.heap.size w w1 := Below.grown ((below_q (HB.out.alloc hsz _) _).alloc (by simp; omega) _) hgrow (by simp; omega) (fun j ej => by cases ej)
        go_roundw
        case rel =>
          refine ⟨⟨k + 1, by omega, by go_num, ?_, fun e => ?_⟩, B2⟩
          · rw [HJ.out]
            exact hown2
          · rw [HJ.out] at e
            cases e
        case measure => simp [intOf]; omega
      · have htp := HTop.out ini l rfl
        have hown1 := hown
        rw [show (ini ++ [l]).length = ini.length + 1 by simp] at hown1
        clear hown
        obtain ⟨b, cp, rfl⟩ := ownsRow_succ (k := ini.length) hown1
        have d1 : wr.cell? ⟨b, ini.length * 2 + 1, none⟩ = some (.int .u64 (l.2 : Nat)) := by
          have := World.ownsRow.cellAt (w := wr) (base := w.heap.size) (e := 30) (size := 2) hown1 (ini.length * 2 + 1) (by omega)
          rw [this, rowR_get]
          rfl
        have hf := own_fz hown1 (ini.length * 2 + 1)
        have hlt2 := hown1.lt b rfl
        obtain ⟨m, hm⟩ : ∃ m, ini.length = m := ⟨_, rfl⟩
        have HM := Lib.hid hm
        rw [hm] at hown1 hf
        have HO := Lib.hid hown1
        have hml : m + 1 ≤ 64 := by rw [← hm]; simp at hle; omega
        rw [hm] at d1
        clear hown1 hnil hle HTop
        by_cases hj : l.2 + 1 = rl
        · rw [jstep_join hj] at HJ
          obtain ⟨lh, hlh⟩ : ∃ lh, l.2 = lh := ⟨_, rfl⟩
          rw [hlh] at hj d1 htp
          have hjB : ((lh : Int) + 1 == (rl : Int)) = true := by simp; omega
          have hwS : IntKind.u64.wrap ((lh : Int) + 1) = (lh : Int) + 1 := by rw [IntKind.wrap_u64]; omega
          have hm1 : IntKind.i64.wrap ((m : Int) + 1 - 1) = (m : Int) := by rw [IntWalk.i64_in _ (by omega)]; omega
          have hge : decide ((0 : Int) ≤ (m : Int)) = true := by simp
          have HLH := Lib.hid hlh
          clear hj hlh
          rw [hm]
          clear hm
          have hbl := cell_lt' d1
          go_wp2
          go_quiet (fail)
          go_wp2
          go_roundw
          case rel =>
            have h5 := (World.ownsRow.stored (own_q (HO.out.alloc (.cells #[.int .u64 (rl : Nat), .int .u64 (rh : Nat)] 30)) nq) (m * 2 + 1) (.int .u64 (rh : Nat))).1
            rw [← HM.out, rowR_set] at h5
            refine ⟨⟨k + 1, by omega, by go_num, ?_, fun e => ?_⟩, (below_q (HB.out.alloc hsz _) _).setCell (p := ⟨b, m * 2 + 1, none⟩) hlt2.1 _⟩
            · rw [HJ.out, show (ini ++ [(l.1, rh)]).length = m + 1 by simp [HM.out]]
              rw [← HM.out]
              exact h5
            · rw [HJ.out] at e
              simp at e
          case measure => simp [intOf]; omega
        · rw [jstep_new hj] at HJ
          obtain ⟨lh, hlh⟩ : ∃ lh, l.2 = lh := ⟨_, rfl⟩
          rw [hlh] at hj d1 htp
          have hjB : ((lh : Int) + 1 == (rl : Int)) = false := by simp; omega
          have hwS : IntKind.u64.wrap ((lh : Int) + 1) = (lh : Int) + 1 := by rw [IntKind.wrap_u64]; omega
          have hm1 : IntKind.i64.wrap ((m : Int) + 1 - 1) = (m : Int) := by rw [IntWalk.i64_in _ (by omega)]; omega
          have hge : decide ((0 : Int) ≤ (m : Int)) = true := by simp
          have HLH := Lib.hid hlh
          clear hj hlh
          rw [hm]
          clear hm
          have hbl := cell_lt' d1
          go_wp2
          go_quiet (fail)
          go_wp2_with (at_builtin; refine wpList_append_own _ rfl _ _ 24 rfl w.heap.size 30 i0 (.agg #[.int .u64 0, .int .u64 0]) 2 16 Tryd.underlying24 hi0 hz0 hz1 hz2 rfl (by decide) _ _ _ rfl ((own_q (HO.out.alloc _) _).alloc _) ⟨wr.heap.size + 1, 0, none⟩ 1 1 [.int .u64 (rl : Nat), .int .u64 (rh : Nat)] rfl rfl (cells_at2 _ _ _ _ _ (by simp)) (by simp [Value.oneCell']) (by unfold maxLen; omega) (by omega) (by first | omega | (simp; omega)) ?_; intro v2 w1 hown2 hgrow _)
          have B2 : Below w.heap.size w w1 := Below.grown ((below_q (HB.out.alloc hsz _) _).alloc (by simp; omega) _) hgrow (by simp; omega) (fun j ej => by cases ej; exact hlt2.1)
          go_roundw
          case rel =>
            refine ⟨⟨k + 1, by omega, by go_num, ?_, fun e => ?_⟩, B2⟩
            · rw [HJ.out, rowR_snoc, show (ini ++ [l] ++ [(rl, rh)]).length = m + 1 + 1 by simp [HM.out]]
              exact hown2
            · rw [HJ.out] at e
              simp at e
          case measure => simp [intOf]; omega
    · obtain rfl : k = n := by omega
      have hk' : S.take k = S := List.take_of_length_le (by rw [← HN.out]; omega)
      rw [hk'] at hown
      have HO := Lib.hid hown
      clear hown hk' hB
      go_wp2
      go_ret
      exact ⟨_, rfl, HO.out, HB.out⟩
end Go.Proofs.YtihigingddaopaaDoor
