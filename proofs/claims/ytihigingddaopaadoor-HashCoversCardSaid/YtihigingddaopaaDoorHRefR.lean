/- The document's pow and ranges. -/
import Derived.Test.YtihigingddaopaaDoorHIns
import Derived.Test.YtihigingddaopaaDoorHRef2
import Derived.Test.YtihigingddaopaaDoorGMay
import Derived.Laws.OwnMore
import Derived.BigRegion
import Derived.BigQuiet
import Derived.Deep.QuietTactic
import Derived.LoopTactic
import Derived.OwnWalk
import Derived.Maps.AppendAt
namespace Go.Proofs.YtihigingddaopaaDoor
open Go.RowKit
set_option linter.unusedVariables false
set_option linter.unusedSimpArgs false

theorem pow_any (k : Nat) (hk : k ≤ 32) (w : World) : Calls Tryd.prog 16 #[.int .i64 (k : Nat)] w fun e w' => e = .returned (.int .i64 ((2 ^ k : Nat) : Int)) ∧ w = w' := by
  go_enter Tryd.func16, Tryd.ntmps16
  go_wp2
  go_loop [3, 4] (fun x i => ∃ j : Nat, j ≤ k ∧ i = .int .i64 (j : Nat) ∧ x = .int .i64 ((2 ^ j : Nat) : Int)) (fun _ i => k - (intOf i).toNat)
  case atStart => exact ⟨0, by omega, rfl, rfl⟩
  case round =>
    obtain ⟨j, hj, rfl, rfl⟩ := hrel
    by_cases hlt : j < k
    · have hb : 2 ^ j ≤ 2147483648 := Nat.le_trans (Nat.pow_le_pow_right (by omega) (show j ≤ 31 by omega)) (by decide)
      have HS := Lib.hid (show 2 ^ (j + 1) = 2 ^ j * 2 from Nat.pow_succ 2 j)
      obtain ⟨p, hp⟩ : ∃ p, p = 2 ^ j := ⟨_, rfl⟩
      rw [← hp] at hb HS ⊢
      clear hp
      go_wp2
      exact ⟨⟨j + 1, by omega, by go_num, by rw [HS.out]; go_num⟩, by simp [intOf]; omega⟩
    · obtain rfl : j = k := by omega
      go_wp2
      go_ret
      exact ⟨rfl, rfl⟩
/-- Numbers that can be read. -/
def RdN (W : World) (g o : Nat) (cs : List Nat) : Prop := ∀ i c, cs[i]? = some c → W.cell? ⟨g, o + i, none⟩ = some (.int .u64 (c : Nat))
theorem kpN {w w' : World} {b o : Nat} {v : Value} {B : Nat} (hb : Below B w w') (hlt : b < B) (h : w.cell? ⟨b, o, none⟩ = some v) : w'.cell? ⟨b, o, none⟩ = some v := (hb.cell (p := ⟨b, o, none⟩) hlt).trans h
theorem RdN.lt {W : World} {g o c : Nat} {cs : List Nat} (h : RdN W g o (c :: cs)) : g < W.heap.size := World.block_lt_of_cell? W ⟨g, o + 0, none⟩ (h 0 c rfl)
def rowQ (S : List Rg) : List Value := S.flatMap fun x => [.int .u64 (x.1 : Nat), .int .u64 (x.2 : Nat)]
theorem rowQ_len (S : List Rg) : (rowQ S).length = S.length * 2 := by
  unfold rowQ
  induction S with
  | nil => rfl
  | cons w l ih => rw [List.flatMap_cons, List.length_append, ih]; simp; omega
theorem rowQ_snoc (ini : List Rg) (r : Rg) : rowQ (ini ++ [r]) = rowQ ini ++ [.int .u64 (r.1 : Nat), .int .u64 (r.2 : Nat)] := by simp [rowQ]
theorem rowQ_set (ini : List Rg) (l : Rg) (h : Nat) : (rowQ (ini ++ [l])).set (ini.length * 2 + 1) (.int .u64 (h : Nat)) = rowQ (ini ++ [(l.1, h)]) := by
  rw [rowQ_snoc, rowQ_snoc, List.set_append_right _ _ (by rw [rowQ_len]; omega), rowQ_len]
  have : ini.length * 2 + 1 - ini.length * 2 = 1 := by omega
  rw [this]
  rfl
theorem infoRq : (Tryd.prog.info? 31).map (fun i => (i.zero, i.size, i.bytes)) = some (some (.agg #[.int .u64 0, .int .u64 0]), 2, 16) := by kernel_rfl
theorem partsOf {o : Option TypeInfo} {z : Value} {s b : Nat} (h : o.map (fun i => (i.zero, i.size, i.bytes)) = some (some z, s, b)) : ∃ i, o = some i ∧ i.zero = some z ∧ i.size = s ∧ i.bytes = b := by
  obtain ⟨i, rfl, h1⟩ := Option.map_eq_some_iff.1 h
  simp at h1
  exact ⟨i, rfl, h1.1, h1.2.1, h1.2.2⟩
theorem rg_topR {k c j : Nat} (h : (c + 1) * 4 ^ k ≤ 18446744073709551616) (hj : j ≤ k) : (rgOf j c).2 < 18446744073709551616 ∧ (rgOf j c).1 ≤ (rgOf j c).2 := by
  have h1 : (c + 1) * 4 ^ j ≤ (c + 1) * 4 ^ k := Nat.mul_le_mul_left _ (Nat.pow_le_pow_right (by omega) hj)
  have hp : 0 < 4 ^ j := Nat.pow_pos (by omega)
  unfold rgOf
  dsimp only
  rw [Nat.add_mul] at h1
  omega
theorem ownB2 {W : World} {base e size n : Nat} {xs : List Value} {v : Value} (h : W.ownsRow base e size v n xs) (hn : 0 < n) : ∃ b cp, v = .slice (some ⟨b, 0, none⟩) n cp ∧ base ≤ b := by
  obtain ⟨hl, ⟨_, h0⟩ | ⟨g, cap, cur, hv, hg, _⟩⟩ := h
  · omega
  · exact ⟨g, cap, hv, hg⟩
theorem ownQn {w : World} {base e size n : Nat} {v : Value} {xs : List Value} (h : w.ownsRow base e size v n xs) (k : Nat) : (w.drewN k).ownsRow base e size v n xs := h
theorem belowQn {B : Nat} {w W : World} (h : Below B w W) (k : Nat) : Below B w (W.drewN k) := h.trans ⟨rfl, rfl, rfl, Nat.le_refl _, fun _ _ => rfl⟩
theorem cells_newQ (W : World) (a b : Value) (T : TypeId) (p : Nat) (hp : W.heap.size = p) : ∀ (j : Nat) (u : Value), [a, b][j]? = some u → (W.alloc (.cells #[a, b] T)).cell? ((⟨p, 0, none⟩ : Addr).add j) = some u := by
  subst hp
  intro j u hj
  match j, hj with
  | 0, hj => simp at hj; subst hj; simp [Addr.add]
  | 1, hj => simp at hj; subst hj; simp [Addr.add]
set_option maxRecDepth 100000 in
set_option maxHeartbeats 16000000 in
theorem ranges_any (cs : List Nat) (k : Nat) (hk : k ≤ 32) (hn : cs.length ≤ 64) (hS : cs.Pairwise (· < ·)) (hT : ∀ c ∈ cs, (c + 1) * 4 ^ k ≤ 18446744073709551616) (g o cap : Nat) (w : World) (hR : RdN w g o cs) (hg : g < w.heap.size) :
    Calls Tryd.prog 18 #[.slice (some ⟨g, o, none⟩) cs.length cap, .int .i64 (32 - (k : Int))] w fun e w' => ∃ v, e = .returned v ∧ w'.ownsRow w.heap.size 31 2 v (joinL (cs.map (rgOf k))).length (rowQ (joinL (cs.map (rgOf k)))) ∧ Below w.heap.size w w' := by
  have HR := Lib.hid hR
  have HT := Lib.hid hT
  have HSo := Lib.hid hS
  clear hR hT hS
  obtain ⟨n, hnn⟩ : ∃ n, n = cs.length := ⟨_, rfl⟩
  rw [← hnn] at hn ⊢
  have HN := Lib.hid hnn
  clear hnn
  obtain ⟨i0, hi0, hz0, hz1, hz2⟩ := partsOf infoRq
  have hkw : IntKind.i64.wrap (32 - (32 - (k : Int))) = (k : Int) := by rw [IntWalk.i64_in _ (by omega)]; omega
  have hkw2 : (32 : Int) - (32 - (k : Int)) = (k : Int) := by omega
  go_enter Tryd.func18, Tryd.ntmps18
  go_wp2_with fail
  go_loopw [5, 6] (fun v i wr => ∃ t : Nat, t ≤ n ∧ i = .int .i64 (t : Nat) ∧ wr.ownsRow w.heap.size 31 2 v (joinL ((cs.take t).map (rgOf k))).length (rowQ (joinL ((cs.take t).map (rgOf k)))) ∧ (t = 0 → v = .slice none 0 0) ∧ Below w.heap.size w wr) (fun _ i _ => n - (intOf i).toNat)
  case atStart => exact ⟨0, by omega, rfl, by simpa [joinL, rowQ] using World.ownsRow_nil w w.heap.size _ 2, fun _ => rfl, Below.refl _ _⟩
  case round =>
    obtain ⟨t, ht, rfl, hown, hnil, hB⟩ := hrel
    have HB := Lib.hid hB
    have HO := Lib.hid hown
    have hws := hB.size
    clear hown hB
    by_cases hlt : t < n
    · obtain ⟨c, hc⟩ : ∃ c, cs[t]? = some c := ⟨cs[t]'(by rw [← HN.out]; exact hlt), List.getElem?_eq_getElem _⟩
      have c0 := kpN HB.out hg (HR.out t c hc)
      have hcT := HT.out c (List.mem_of_getElem? hc)
      have HC := Lib.hid hc
      have HTop : Hid (∀ j, j ≤ k → (rgOf j c).2 < 18446744073709551616 ∧ (rgOf j c).1 ≤ (rgOf j c).2) := Lib.hid fun j hj => rg_topR hcT hj
      have hc64 : c < 18446744073709551616 := by have := (rg_topR hcT (Nat.zero_le k)).1; rw [rg_zero] at this; exact this
      clear hc hcT
      go_wp2_with fail
      go_quiet (fail)
      go_wp2_with fail
      go_loop [7, 8, 9] (fun lo hi j => ∃ s : Nat, s ≤ k ∧ j = .int .i64 (s : Nat) ∧ lo = .int .u64 ((rgOf s c).1 : Nat) ∧ hi = .int .u64 ((rgOf s c).2 : Nat)) (fun _ _ j => k - (intOf j).toNat)
      case atStart => exact ⟨0, by omega, rfl, by rw [rg_zero], by rw [rg_zero]⟩
      case round =>
        obtain ⟨s, hs, rfl, rfl, rfl⟩ := hrel
        by_cases hls : s < k
        · have hb := HTop.out (s + 1) (by omega)
          have HS := Lib.hid (rg_succ s c)
          rw [HS.out] at hb
          dsimp only at hb
          obtain ⟨x, hx⟩ : ∃ x, x = (rgOf s c).1 := ⟨_, rfl⟩
          obtain ⟨y, hy⟩ : ∃ y, y = (rgOf s c).2 := ⟨_, rfl⟩
          rw [← hx, ← hy] at hb HS ⊢
          clear hx hy
          have hx1 : 4 * x < 18446744073709551616 := by omega
          have hy1 : 4 * y + 3 < 18446744073709551616 := hb.1
          clear hb
          go_wp2_with fail
          exact ⟨⟨s + 1, by omega, by go_num, by rw [HS.out]; go_num, by rw [HS.out]; go_num⟩, by simp [intOf]; omega⟩
        · obtain rfl : s = k := by omega
          have hb := HTop.out s (Nat.le_refl _)
          rcases t with _ | t
          · have hv := hnil rfl
            subst hv
            have HO2 := Lib.hid (show wr.ownsRow w.heap.size 31 2 (.slice none 0 0) 0 [] by simpa [joinL, rowQ] using HO.out)
            have HJ : Hid (joinL ((cs.take (0 + 1)).map (rgOf s)) = [rgOf s c]) := Lib.hid (by
              have e : cs.take (0 + 1) = [c] := by rw [List.take_add_one, HC.out]; rfl
              rw [e, List.map_singleton]; rfl)
            clear HO HTop hnil
            generalize rgOf s c = r at *
            obtain ⟨rl, rh⟩ := r
            dsimp only at *
            go_wp2_with fail
            go_quiet (fail)
            go_wp2_with (at_builtin; refine wpList_append_own _ rfl _ _ 26 rfl w.heap.size 31 i0 (.agg #[.int .u64 0, .int .u64 0]) 2 16 Tryd.underlying26 hi0 hz0 hz1 hz2 rfl (by decide) _ _ _ rfl ((ownQn HO2.out _).alloc _) ⟨wr.heap.size, 0, none⟩ 1 1 [.int .u64 (rl : Nat), .int .u64 (rh : Nat)] rfl rfl (cells_newQ _ _ _ _ _ (by simp)) (by simp [Value.oneCell']) (by unfold maxLen; omega) (by omega) (by first | omega | (simp; omega)) ?_; intro v2 w1 hown2 hgrow _)
            have B2 : Below w.heap.size w w1 := Below.grown ((belowQn HB.out _).alloc (by simp; omega) _) hgrow (by simp; omega) (fun j ej => by cases ej)
            go_roundw
            case rel => exact ⟨0 + 1, by omega, by go_num, by rw [HJ.out]; exact hown2, fun e => by omega, B2⟩
            case measure => simp [intOf]; omega
          · obtain ⟨c', hc'⟩ : ∃ c', cs[t]? = some c' := ⟨cs[t]'(by rw [← HN.out]; omega), List.getElem?_eq_getElem _⟩
            have c1 := kpN HB.out hg (HR.out t c' hc')
            have hcc : c' < c := by
              obtain ⟨h1, e1⟩ := List.getElem?_eq_some_iff.1 hc'
              obtain ⟨h2, e2⟩ := List.getElem?_eq_some_iff.1 HC.out
              rw [← e1, ← e2]
              exact List.pairwise_iff_getElem.1 HSo.out t (t + 1) h1 h2 (by omega)
            have hlast := lastHi_of (k := s) hc'
            have hne := join_ne (k := s) hc'
            have hle := ranges_le (k := s) (cs.take (t + 1))
            rw [List.length_take] at hle
            have HJ : Hid (joinL ((cs.take (t + 1 + 1)).map (rgOf s)) = jstep (joinL ((cs.take (t + 1)).map (rgOf s))) (rgOf s c)) := Lib.hid (by
              have e : cs.take (t + 1 + 1) = cs.take (t + 1) ++ [c] := by rw [List.take_add_one, HC.out]; rfl
              rw [e, List.map_append, List.map_singleton, join_snoc])
            have HO2 := Lib.hid HO.out
            have hnx : (rgOf s c').2 + 1 = (rgOf s c).1 ↔ c' + 1 = c := rg_next
            clear HO HTop hnil hc'
            generalize joinL ((cs.take (t + 1)).map (rgOf s)) = out at *
            generalize rgOf s c = r at *
            rcases snoc_cases out with rfl | ⟨ini, l, rfl⟩
            · exact absurd rfl hne
            · rw [lastHi_snoc] at hlast
              rw [← hlast] at hnx
              have hown1 := HO2.out
              rw [show (ini ++ [l]).length = ini.length + 1 by simp] at hown1 hle
              obtain ⟨b, cp, rfl, hbb⟩ := ownB2 hown1 (by omega)
              have hf := World.ownsRow.frozenAt hown1 (ini.length * 2 + 1)
              have hlt2 := hown1.lt b rfl
              have hm6 : ini.length + 1 ≤ 64 := by omega
              have d1 : ∃ lv, wr.cell? ⟨b, ini.length * 2 + 1, none⟩ = some lv := by
                have := World.ownsRow.cellAt (w := wr) (base := w.heap.size) (e := 31) (size := 2) hown1 (ini.length * 2 + 1) (by omega)
                rw [this, rowQ_snoc, List.getElem?_append_right (by rw [rowQ_len]; omega), rowQ_len]
                exact ⟨_, by rw [show ini.length * 2 + 1 - ini.length * 2 = 1 by omega]; rfl⟩
              obtain ⟨lv, d1⟩ := d1
              obtain ⟨m, hm⟩ : ∃ m, ini.length = m := ⟨_, rfl⟩
              have HM := Lib.hid hm
              rw [hm] at hown1 hf d1 hm6
              have HO3 := Lib.hid hown1
              have htt : IntKind.i64.wrap ((t : Int) + 1 - 1) = (t : Int) := by rw [IntWalk.i64_in _ (by omega)]; omega
              have htt2 : (t : Int) + 1 - 1 = (t : Int) := by omega
              have hm1 : IntKind.i64.wrap ((m : Int) + 1 - 1) = (m : Int) := by rw [IntWalk.i64_in _ (by omega)]; omega
              have hm2 : (m : Int) + 1 - 1 = (m : Int) := by omega
              have hwS : IntKind.u64.wrap ((c' : Int) + 1) = (c' : Int) + 1 := by rw [IntKind.wrap_u64]; omega
              clear HO2 hown1 hle hne hlast
              obtain ⟨rl, rh⟩ := r
              dsimp only at hnx ⊢
              rw [hm]
              clear hm
              by_cases hj : c' + 1 = c
              · rw [jstep_join (hnx.2 hj)] at HJ
                have hjB : ((c : Int) == (c' : Int) + 1) = true := by simp; omega
                have hjB2 : decide ((c : Int) = (c' : Int) + 1) = true := decide_eq_true (by omega)
                clear hnx hj
                go_wp2_with fail
                go_quiet (fail)
                go_wp2_with fail
                have h5 := (World.ownsRow.stored HO3.out (m * 2 + 1) (.int .u64 (rh : Nat))).1
                rw [← HM.out, rowQ_set] at h5
                refine ⟨⟨t + 1 + 1, by omega, by go_num, ?_, (fun e => by omega), (belowQn HB.out _).setCell (p := ⟨b, m * 2 + 1, none⟩) hlt2.1 _⟩, by simp [intOf]; omega⟩
                rw [HJ.out, show (ini ++ [(l.1, rh)]).length = m + 1 by simp [HM.out], ← HM.out]
                exact h5
              · rw [jstep_new (fun h => hj (hnx.1 h))] at HJ
                have hjB : ((c : Int) == (c' : Int) + 1) = false := by simp; omega
                have hjB2 : decide ((c : Int) = (c' : Int) + 1) = false := decide_eq_false (by omega)
                clear hnx hj
                go_wp2_with fail
                go_quiet (fail)
                go_wp2_with (at_builtin; refine wpList_append_own _ rfl _ _ 26 rfl w.heap.size 31 i0 (.agg #[.int .u64 0, .int .u64 0]) 2 16 Tryd.underlying26 hi0 hz0 hz1 hz2 rfl (by decide) _ _ _ rfl ((ownQn HO3.out _).alloc _) ⟨wr.heap.size, 0, none⟩ 1 1 [.int .u64 (rl : Nat), .int .u64 (rh : Nat)] rfl rfl (cells_newQ _ _ _ _ _ (by simp)) (by simp [Value.oneCell']) (by unfold maxLen; omega) (by omega) (by first | omega | (simp; omega)) ?_; intro v2 w1 hown2 hgrow _)
                have B2 : Below w.heap.size w w1 := Below.grown ((belowQn HB.out _).alloc (by simp; omega) _) hgrow (by simp; omega) (fun j ej => by cases ej; exact hlt2.1)
                go_roundw
                case rel => exact ⟨t + 1 + 1, by omega, by go_num, by rw [HJ.out, rowQ_snoc, show (ini ++ [l] ++ [(rl, rh)]).length = m + 1 + 1 by simp [HM.out]]; exact hown2, fun e => by omega, B2⟩
                case measure => simp [intOf]; omega
    · obtain rfl : t = n := by omega
      have HO2 : Hid (wr.ownsRow w.heap.size 31 2 u5 (joinL (cs.map (rgOf k))).length (rowQ (joinL (cs.map (rgOf k))))) := Lib.hid (by have h := HO.out; rwa [HN.out, List.take_length] at h)
      go_wp2_with fail
      go_ret
      exact ⟨u5, rfl, HO2.out, HB.out⟩
end Go.Proofs.YtihigingddaopaaDoor
