/- The walk of FrameTorn. -/
import Derived.Test.YtmkpknjhbkbafaaFTornDefs
import Derived.Deep.RegionHeld3
namespace Go.Proofs.Ytmkpknjhbkbafaa
open Go.RowKit

def boxCells (mk : Nat → Int) (Aw : Nat → Option Addr) (nn cc : Nat → Nat) (ct : Nat → Int) : Array Value :=
  #[.int .i64 (mk 0), .slice (Aw 0) (nn 0) (cc 0), .int .i64 (ct 0), .int .i64 (mk 1), .slice (Aw 1) (nn 1) (cc 1), .int .i64 (ct 1), .int .i64 (mk 2), .slice (Aw 2) (nn 2) (cc 2), .int .i64 (ct 2)]

/-- What the loop of FrameTorn keeps. -/
def TornRel (w W : World) (s m : Nat) (zero : Bool) (mk : Nat → Int) (nn : Nat → Nat) (F : Nat → Nat → Nat) (cut : Nat → Nat) (k : Nat) (v : Value) (wr : World) : Prop :=
  wr.ownsRow (w.heap.size + 2) 9 1 v (wholeS zero (fun k => secF m (mk k).toNat (nn k) (F k)) s k).length (wholeS zero (fun k => secF m (mk k).toNat (nn k) (F k)) s k) ∧
  BRow wr (w.heap.size + 1) s (nowS zero (fun k => secF m (mk k).toNat (nn k) (F k)) cut k) ∧ Below (w.heap.size + 1) W wr ∧ w.heap.size + 2 ≤ wr.heap.size ∧
  ∀ j, j < k → ¬ (j = 0 ∧ zero = true) → 1 ≤ mk j ∧ mk j ≤ 4611686018427387904

/-- What a round leaves, put together. -/
theorem torn_step {w W W3 : World} {s m : Nat} {zero : Bool} {mk : Nat → Int} {nn : Nat → Nat} {F : Nat → Nat → Nat} {cut : Nat → Nat} {k n : Nat} {v : Value} (hsk : ¬ (k = 0 ∧ zero = true))
    (hn : n = (wholeS zero (fun k => secF m (mk k).toNat (nn k) (F k)) s k).length + 1)
    (ho : W3.ownsRow (w.heap.size + 2) 9 1 v n (wholeS zero (fun k => secF m (mk k).toNat (nn k) (F k)) s k ++ [.string (strF (secF m (mk k).toNat (nn k) (F k)) s)]))
    (hr : BRow W3 (w.heap.size + 1) s (copyF (nowS zero (fun k => secF m (mk k).toNat (nn k) (F k)) cut k) 0 (cut k) (secF m (mk k).toNat (nn k) (F k))))
    (hl : Below (w.heap.size + 1) W W3) (hz : w.heap.size + 2 ≤ W3.heap.size) (hm : 1 ≤ mk k ∧ mk k ≤ 4611686018427387904)
    (hv : ∀ j, j < k → ¬ (j = 0 ∧ zero = true) → 1 ≤ mk j ∧ mk j ≤ 4611686018427387904) : TornRel w W s m zero mk nn F cut (k + 1) v W3 := by
  subst hn
  refine ⟨?_, ?_, hl, hz, fun j hj hz => ?_⟩
  · rw [wholeS_step hsk, List.length_append]
    exact ho
  · rw [nowS_step hsk]
    exact hr
  · rcases Nat.lt_or_ge j k with h | h
    · exact hv j h hz
    · obtain rfl : j = k := by omega
      exact hm

set_option maxRecDepth 100000 in
set_option maxHeartbeats 2000000 in
theorem frameTorn_main (s m : Nat) (zero : Bool) (mk : Nat → Int) (Aw : Nat → Option Addr) (nn cc : Nat → Nat) (ct : Nat → Int) (F : Nat → Nat → Nat) (w : World) (hm1 : m + 20 ≤ s) (hm2 : s ≤ m + 20) (h44 : 44 ≤ m) (hm : m ≤ 4076)
    (hb : ∀ k, k < 3 → Bytes w (Aw k) (nn k) (F k)) (HSEC : Hid (∀ r, r < 3 → ¬ (r = 0 ∧ zero = true) → ∀ i, i < s → secF m (mk r).toNat (nn r) (F r) i < 256)) (n01 : mk 0 ≠ mk 1) (n02 : mk 0 ≠ mk 2) (n12 : mk 1 ≠ mk 2) :
    Calls Try.prog 6 #[.int .i64 s, .bool zero, .agg (boxCells mk Aw nn cc ct)] w fun e w' => e = .returned (.bool true) ∧ Below w.heap.size w w' := by
  have q01 : (mk 0 == mk 1) = false := by simpa using n01
  have q02 : (mk 0 == mk 2) = false := by simpa using n02
  have q12 : (mk 1 == mk 2) = false := by simpa using n12
  have hmk := run_make_row' (P := Try.prog) 22 5 (.int .u8 0) 1 Try.underlying22 u8info rfl .i64 .i64 s (by omega) (by omega)
  obtain ⟨i0, hi0, hz0, hz1, hz2⟩ := info_parts strinfo
  unfold boxCells
  go_enter Try.func6, Try.ntmps6
  go_wp2
  obtain ⟨W, hW⟩ : ∃ W, W = w.alloc (.cells #[.int .i64 (mk 0), .slice (Aw 0) (nn 0) (cc 0), .int .i64 (ct 0), .int .i64 (mk 1), .slice (Aw 1) (nn 1) (cc 1), .int .i64 (ct 1), .int .i64 (mk 2), .slice (Aw 2) (nn 2) (cc 2), .int .i64 (ct 2)] 41) := ⟨_, rfl⟩
  have hWs : W.heap.size = w.heap.size + 1 := by rw [hW, World.size_alloc]
  have hWb : Below w.heap.size w W := by rw [hW]; exact (Below.refl _ _).alloc (Nat.le_refl _) _
  have hc1 : ∀ k, k < 3 → W.cell? ⟨w.heap.size, k * 3, none⟩ = some (.int .i64 (mk k)) := fun k hk => by
    rw [hW]
    match k, hk with
    | 0, _ => simp
    | 1, _ => simp
    | 2, _ => simp
  have hc2 : ∀ k, k < 3 → W.cell? ⟨w.heap.size, k * 3 + 1, none⟩ = some (.slice (Aw k) (nn k) (cc k)) := fun k hk => by
    rw [hW]
    match k, hk with
    | 0, _ => simp
    | 1, _ => simp
    | 2, _ => simp
  have hc3 : ∀ k, k < 3 → W.cell? ⟨w.heap.size, k * 3 + 2, none⟩ = some (.int .i64 (ct k)) := fun k hk => by
    rw [hW]
    match k, hk with
    | 0, _ => simp
    | 1, _ => simp
    | 2, _ => simp
  rw [← hW]
  have hr0 : BRow (W.alloc (.cells (madeCells #[.int .u8 0] s) 5)) (w.heap.size + 1) s zeroF := by
    have := BRow.made W s (by omega)
    rw [hWs] at this
    exact this
  have hC1 := Lib.hid hc1
  have hC2 := Lib.hid hc2
  have hC3 := Lib.hid hc3
  have HWS := Lib.hid hWs
  have HWB := Lib.hid hWb
  have HR0 := Lib.hid hr0
  clear hW hc1 hc2 hc3 hWb hr0 hmk
  obtain ⟨cut, hcut0, hcut⟩ : ∃ cut : Nat → Nat, cut 0 = s ∧ ∀ k, 0 < k → cut k ≤ s ∧ wrap64 ((IntKind.u64.wrap (ct k)).tmod ((s : Int) + 1)) = (cut k : Int) := by
    have hp : ∀ k, ∃ j : Nat, j < s + 1 ∧ wrap64 ((IntKind.u64.wrap (ct k)).tmod ((s + 1 : Nat) : Int)) = (j : Int) := fun k => place_of (ct k) (s + 1) (by omega) (by omega)
    refine ⟨fun k => if k = 0 then s else (hp k).choose, rfl, fun k hk => ?_⟩
    have h1 := (hp k).choose_spec
    dsimp only
    rw [if_neg (show ¬ k = 0 by omega), ← h1.2]
    exact ⟨by omega, rfl⟩
  have CUT := Lib.hid hcut
  have CUT0 := Lib.hid hcut0
  clear hcut hcut0
  go_loopw [8, 9] (fun v i wr => ∃ k : Nat, k ≤ 3 ∧ i = .int .i64 k ∧ TornRel w W s m zero mk nn F cut k v wr) (fun _ i _ => 3 - (intOf i).toNat)
  case atStart =>
    refine ⟨0, by omega, rfl, World.ownsRow_nil _ _ _ _, HR0.out, ?_, ?_, fun j hj => absurd hj (by omega)⟩
    · rw [← hWs]
      exact (Below.refl _ _).alloc (Nat.le_refl _) _
    · simp [hWs]
  case round =>
    clear HR0 hWs
    obtain ⟨k, hk, rfl, ho, hrow, hbel, hsz, hval⟩ := hrel
    by_cases hlt : k < 3
    · by_cases hskip : k = 0 ∧ zero = true
      · obtain ⟨rfl, rfl⟩ := hskip
        go_wp2
        go_roundw
        case rel => exact ⟨1, by omega, rfl, by rw [wholeS_skip _ _ _ rfl]; exact ho, by rw [nowS_skip _ _ _ rfl]; exact hrow, hbel, hsz, fun j hj hz => absurd ⟨by omega, rfl⟩ hz⟩
        case measure => simp [intOf]
      · have hcm : wr.cell? ⟨w.heap.size, k * 3, none⟩ = some (.int .i64 (mk k)) := (hbel.cell (p := ⟨w.heap.size, k * 3, none⟩) (by simp)).trans (hC1.out k hlt)
        have hca : wr.cell? ⟨w.heap.size, k * 3 + 1, none⟩ = some (.slice (Aw k) (nn k) (cc k)) := (hbel.cell (p := ⟨w.heap.size, k * 3 + 1, none⟩) (by simp)).trans (hC2.out k hlt)
        have hcc : wr.cell? ⟨w.heap.size, k * 3 + 2, none⟩ = some (.int .i64 (ct k)) := (hbel.cell (p := ⟨w.heap.size, k * 3 + 2, none⟩) (by simp)).trans (hC3.out k hlt)
        have hnk := (hb k hlt).1
        have lw : Below w.heap.size w wr := HWB.out.trans (hbel.mono (by omega))
        have HVAL := Lib.hid hval
        have HB := Lib.hid hbel
        have HO := Lib.hid ho
        have HROW := Lib.hid hrow
        clear hval hbel ho hrow
        by_cases hk0 : k = 0
        · subst hk0
          have hz : zero = false := by cases zero with
            | false => rfl
            | true => exact absurd ⟨rfl, rfl⟩ hskip
          have HSK := Lib.hid hskip
          clear hskip
          subst hz
          simp only [Nat.zero_mul, Nat.zero_add] at hcm hca hcc
          by_cases hlong : 5000 < nn 0
          · go_wp2
            go_ret
            exact ⟨rfl, lw⟩
          · by_cases herr : bErr (s : Int) (mk 0) (nn 0) = 0
            · have hkm : ¬ (mk 0 < 1 ∨ 4611686018427387904 < mk 0) := fun h => by rw [bErr_2 (by omega) h] at herr; cases herr
              have hln : ¬ (s : Int) - 36 < nn 0 := fun h => by rw [bErr_3 (by omega) hkm h] at herr; cases herr
              have hm3 : 1 ≤ mk 0 ∧ mk 0 ≤ 4611686018427387904 := by omega
              clear herr hkm
              go_wp2
              go_region_held3 (fun w' => w'.cell? ⟨w.heap.size, 0, none⟩ = some (.int .i64 (mk 0)) ∧ w'.cell? ⟨w.heap.size, 1, none⟩ = some (.slice (Aw 0) (nn 0) (cc 0))) (first | exact ⟨hcm, hca⟩ | exact ⟨(l1.cell (p := ⟨w.heap.size, 0, none⟩) (by simp; omega)).trans hcm, (l1.cell (p := ⟨w.heap.size, 1, none⟩) (by simp; omega)).trans hca⟩ | go_keep)
                (first | (go_at_call 12; refine (build_int s m (nn 0) (cc 0) (mk 0) (Aw 0) (F 0) _ hm1 hm2 h44 hm hm3.1 hm3.2 (by omega) ((hb 0 hlt).below (below_drewN lw _) (Nat.le_refl _))).mono ?_; rintro e w1 ⟨rfl, b1, l1⟩))
              have l2 : Below wr.heap.size wr w1 := ⟨l1.os, l1.tape, l1.output, l1.size, l1.block⟩
              have b2 : BRow w1 wr.heap.size s (secF m (mk 0).toNat (nn 0) (F 0)) := b1
              have r2 := HROW.out.below l2 (by omega)
              have o2 := HO.out.kept (grown_below (r := none) l2) (by cases h : u8.ownBlock <;> simp)
              have lb2 : Below (w.heap.size + 1) W w1 := HB.out.trans (l2.mono (by omega))
              have hs2 := l2.size
              have hqs : ((s : Int) != (s : Int)) = false := by simp
              have src : Bytes w1 (some ⟨wr.heap.size, 0, none⟩) s (secF m (mk 0).toNat (nn 0) (F 0)) := (b2.bytes (o := 0) (m := s) (by omega)).congr fun i _ => by rw [Nat.zero_add]
              clear l1 b1
              have L2 := Lib.hid l2
              have B2 := Lib.hid b2
              have R2 := Lib.hid r2
              have O2 := Lib.hid o2
              have LB2 := Lib.hid lb2
              have SRC := Lib.hid src
              clear l2 b2 r2 o2 lb2 src
              go_wp2_with (with_reducible refine wpList_copy_bytes rfl (.tmp 106) (.tmp 109) 22 22 rfl Try.underlying22 u8size _ _ _ _ _ _ rfl rfl (w.heap.size + 1) 0 s s _ _ R2.out SRC.out ?e10 ?e20 ?e30 ?e40)
              case e10 => exact (Nat.min_eq_left (by omega)).symm
              case e30 => omega
              case e40 =>
                intro W2 r3 g3
                have hg3 := g3.size
                have b3 := B2.out.other g3 (by simp; omega)
                have o3 := O2.out.kept g3 (.inr fun e => by have := (O2.out.lt _ e).1; omega)
                have lb3 := LB2.out.grown g3 (by omega) (by rintro j ⟨⟩; exact Nat.le_refl _)
                have kc := conv_any s ((b3.bytes (o := 0) (m := s) (by omega)).congr fun i _ => by rw [Nat.zero_add])
                have R3 := Lib.hid r3
                have O3 := Lib.hid o3
                have LB3 := Lib.hid lb3
                clear r3 g3 b3 o3 lb3
                have hwl := wholeS_len false (fun k => secF m (mk k).toNat (nn k) (F k)) s 0
                have hsz2 : w.heap.size + 2 ≤ W2.heap.size := by omega
                go_wp2_with (at_builtin; with_reducible refine wpList_append_own_at _ rfl (.tmp 111) (.tmp 114) 42 rfl (w.heap.size + 2) 9 i0 (.string ByteArray.empty) 1 16 Try.underlying42 hi0 hz0 hz1 hz2 rfl (by omega) _ _ _ rfl (O3.out.alloc _) ⟨W2.heap.size, 0, none⟩ 1 1 [.string (strF (secF m (mk 0).toNat (nn 0) (F 0)) s)] rfl rfl (cell_one_new _ _ _) ?f10 ?f20 ?f30 ?f40 ?f50)
                case f10 => intro u hu; simp at hu; subst hu; rfl
                case f20 => unfold maxLen; omega
                case f30 => omega
                case f40 => simp; omega
                case f50 =>
                  intro v4 W4 o4 g4 _ _
                  have hz4 := g4.size
                  rw [World.size_alloc] at hz4
                  have r4 := (R3.out.alloc (.cells #[.string (strF (secF m (mk 0).toNat (nn 0) (F 0)) s)] 9)).other g4 (fun e => by have := (O3.out.lt _ e.symm).1; omega)
                  have l4 := (LB3.out.alloc (by omega) (.cells #[.string (strF (secF m (mk 0).toNat (nn 0) (F 0)) s)] 9)).grown g4 (by rw [World.size_alloc]; omega) (fun j hj => by have := (O3.out.lt _ hj).1; omega)
                  have REL := Lib.hid (torn_step (k := 0) (zero := false) (cut := cut) (by simp) rfl o4 (by rw [CUT0.out]; exact r4) l4 (by omega) hm3 HVAL.out)
                  clear o4 g4 r4 l4 kc
                  go_wp2
                  go_roundw
                  case rel => exact ⟨0 + 1, by omega, by rfl, REL.out⟩
                  case measure => simp [intOf]
              all_goals exact fun _ => rfl
            · have hl0 : bLen (s : Int) (mk 0) (nn 0) = 0 := by unfold bLen; rw [if_neg herr]
              have q1 : (bErr (s : Int) (mk 0) (nn 0) != 0) = true := by rw [bne_iff_ne]; exact herr
              have HL := Lib.hid hl0
              clear herr hl0
              go_wp2
              go_region_held3 (fun w' => w'.cell? ⟨w.heap.size, 0, none⟩ = some (.int .i64 (mk 0)) ∧ w'.cell? ⟨w.heap.size, 1, none⟩ = some (.slice (Aw 0) (nn 0) (cc 0))) (first | exact ⟨hcm, hca⟩ | exact ⟨(l1.cell (p := ⟨w.heap.size, 0, none⟩) (by simp; omega)).trans hcm, (l1.cell (p := ⟨w.heap.size, 1, none⟩) (by simp; omega)).trans hca⟩ | go_keep)
                (first | (go_at_call 12; refine (build_all (s : Int) (mk 0) (nn 0) (cc 0) (Aw 0) (F 0) _ ((hb 0 hlt).below (below_drewN lw _) (Nat.le_refl _))).mono ?_; rintro e w1 ⟨B1, d1, rfl, b1, l1⟩))
              have l2 : Below wr.heap.size wr w1 := ⟨l1.os, l1.tape, l1.output, l1.size, l1.block⟩
              have l3 : Below w.heap.size w w1 := lw.trans (l2.mono lw.size)
              clear l1 l2 b1 lw
              go_wp2_with fail
              refine (awake_any w1).mono ?_
              rintro e w4 ⟨rfl, l5⟩
              have l6 : Below w.heap.size w w4 := l3.trans (l5.mono l3.size)
              clear l3 l5
              go_wp2
              go_ret
              exact ⟨rfl, l6⟩
        · have hkp : 0 < k := by omega
          have hkb : ((k : Int) == 0) = false := by simp; omega
          have HSK := Lib.hid hskip
          clear hskip hk0
          by_cases hlong : 5000 < nn k
          · go_wp2
            go_ret
            exact ⟨rfl, lw⟩
          · by_cases herr : bErr (s : Int) (mk k) (nn k) = 0
            · have hkm : ¬ (mk k < 1 ∨ 4611686018427387904 < mk k) := fun h => by rw [bErr_2 (by omega) h] at herr; cases herr
              have hln : ¬ (s : Int) - 36 < nn k := fun h => by rw [bErr_3 (by omega) hkm h] at herr; cases herr
              have hm3 : 1 ≤ mk k ∧ mk k ≤ 4611686018427387904 := by omega
              clear herr hkm
              go_wp2
              go_region_held3 (fun w' => w'.cell? ⟨w.heap.size, k * 3, none⟩ = some (.int .i64 (mk k)) ∧ w'.cell? ⟨w.heap.size, k * 3 + 1, none⟩ = some (.slice (Aw k) (nn k) (cc k))) (first | exact ⟨hcm, hca⟩ | exact ⟨(l1.cell (p := ⟨w.heap.size, k * 3, none⟩) (by simp; omega)).trans hcm, (l1.cell (p := ⟨w.heap.size, k * 3 + 1, none⟩) (by simp; omega)).trans hca⟩ | go_keep)
                (first | (go_at_call 12; refine (build_int s m (nn k) (cc k) (mk k) (Aw k) (F k) _ hm1 hm2 h44 hm hm3.1 hm3.2 (by omega) ((hb k hlt).below (below_drewN lw _) (Nat.le_refl _))).mono ?_; rintro e w1 ⟨rfl, b1, l1⟩))
              have l2 : Below wr.heap.size wr w1 := ⟨l1.os, l1.tape, l1.output, l1.size, l1.block⟩
              have b2 : BRow w1 wr.heap.size s (secF m (mk k).toNat (nn k) (F k)) := b1
              have r2 := HROW.out.below l2 (by omega)
              have o2 := HO.out.kept (grown_below (r := none) l2) (by cases h : u8.ownBlock <;> simp)
              have lb2 : Below (w.heap.size + 1) W w1 := HB.out.trans (l2.mono (by omega))
              have hs2 := l2.size
              have hqs : ((s : Int) != (s : Int)) = false := by simp
              have hcs := (CUT.out k hkp).1
              have hce := (CUT.out k hkp).2
              have hc1 : w1.cell? ⟨w.heap.size, k * 3 + 2, none⟩ = some (.int .i64 (ct k)) := (l2.cell (p := ⟨w.heap.size, k * 3 + 2, none⟩) (by simp; omega)).trans hcc
              have src : Bytes w1 (some ⟨wr.heap.size, 0, none⟩) (cut k) (secF m (mk k).toNat (nn k) (F k)) := (b2.bytes (o := 0) (m := cut k) (by omega)).congr fun i _ => by rw [Nat.zero_add]
              clear l1 b1
              have L2 := Lib.hid l2
              have B2 := Lib.hid b2
              have R2 := Lib.hid r2
              have O2 := Lib.hid o2
              have LB2 := Lib.hid lb2
              have SRC := Lib.hid src
              clear l2 b2 r2 o2 lb2 src
              go_wp2_with (with_reducible refine wpList_copy_bytes rfl (.tmp 106) (.tmp 109) 22 22 rfl Try.underlying22 u8size _ _ _ _ _ _ rfl rfl (w.heap.size + 1) 0 s (cut k) _ _ R2.out SRC.out ?e1k ?e2k ?e3k ?e4k)
              case e1k => exact (Nat.min_eq_left (by omega)).symm
              case e3k => omega
              case e4k =>
                intro W2 r3 g3
                have hg3 := g3.size
                have b3 := B2.out.other g3 (by simp; omega)
                have o3 := O2.out.kept g3 (.inr fun e => by have := (O2.out.lt _ e).1; omega)
                have lb3 := LB2.out.grown g3 (by omega) (by rintro j ⟨⟩; exact Nat.le_refl _)
                have kc := conv_any s ((b3.bytes (o := 0) (m := s) (by omega)).congr fun i _ => by rw [Nat.zero_add])
                have R3 := Lib.hid r3
                have O3 := Lib.hid o3
                have LB3 := Lib.hid lb3
                clear r3 g3 b3 o3 lb3
                have hwl := wholeS_len zero (fun k => secF m (mk k).toNat (nn k) (F k)) s k
                have hsz2 : w.heap.size + 2 ≤ W2.heap.size := by omega
                go_wp2_with (at_builtin; with_reducible refine wpList_append_own_at _ rfl (.tmp 111) (.tmp 114) 42 rfl (w.heap.size + 2) 9 i0 (.string ByteArray.empty) 1 16 Try.underlying42 hi0 hz0 hz1 hz2 rfl (by omega) _ _ _ rfl (O3.out.alloc _) ⟨W2.heap.size, 0, none⟩ 1 1 [.string (strF (secF m (mk k).toNat (nn k) (F k)) s)] rfl rfl (cell_one_new _ _ _) ?f1k ?f2k ?f3k ?f4k ?f5k)
                case f1k => intro u hu; simp at hu; subst hu; rfl
                case f2k => unfold maxLen; omega
                case f3k => omega
                case f4k => simp; omega
                case f5k =>
                  intro v4 W4 o4 g4 _ _
                  have hz4 := g4.size
                  rw [World.size_alloc] at hz4
                  have r4 := (R3.out.alloc (.cells #[.string (strF (secF m (mk k).toNat (nn k) (F k)) s)] 9)).other g4 (fun e => by have := (O3.out.lt _ e.symm).1; omega)
                  have l4 := (LB3.out.alloc (by omega) (.cells #[.string (strF (secF m (mk k).toNat (nn k) (F k)) s)] 9)).grown g4 (by rw [World.size_alloc]; omega) (fun j hj => by have := (O3.out.lt _ hj).1; omega)
                  have REL := Lib.hid (torn_step HSK.out rfl o4 r4 l4 (by omega) hm3 HVAL.out)
                  clear o4 g4 r4 l4 kc
                  go_wp2
                  go_roundw
                  case rel => exact ⟨k + 1, by omega, by go_num, REL.out⟩
                  case measure => simp [intOf]; omega
              all_goals exact fun _ => rfl
            · have hl0 : bLen (s : Int) (mk k) (nn k) = 0 := by unfold bLen; rw [if_neg herr]
              have q1 : (bErr (s : Int) (mk k) (nn k) != 0) = true := by rw [bne_iff_ne]; exact herr
              have HL := Lib.hid hl0
              clear herr hl0
              go_wp2
              go_region_held3 (fun w' => w'.cell? ⟨w.heap.size, k * 3, none⟩ = some (.int .i64 (mk k)) ∧ w'.cell? ⟨w.heap.size, k * 3 + 1, none⟩ = some (.slice (Aw k) (nn k) (cc k))) (first | exact ⟨hcm, hca⟩ | exact ⟨(l1.cell (p := ⟨w.heap.size, k * 3, none⟩) (by simp; omega)).trans hcm, (l1.cell (p := ⟨w.heap.size, k * 3 + 1, none⟩) (by simp; omega)).trans hca⟩ | go_keep)
                (first | (go_at_call 12; refine (build_all (s : Int) (mk k) (nn k) (cc k) (Aw k) (F k) _ ((hb k hlt).below (below_drewN lw _) (Nat.le_refl _))).mono ?_; rintro e w1 ⟨B1, d1, rfl, b1, l1⟩))
              have l2 : Below wr.heap.size wr w1 := ⟨l1.os, l1.tape, l1.output, l1.size, l1.block⟩
              have l3 : Below w.heap.size w w1 := lw.trans (l2.mono lw.size)
              clear l1 l2 b1 lw
              go_wp2_with fail
              refine (awake_any w1).mono ?_
              rintro e w4 ⟨rfl, l5⟩
              have l6 : Below w.heap.size w w4 := l3.trans (l5.mono l3.size)
              clear l3 l5
              go_wp2
              go_ret
              exact ⟨rfl, l6⟩
    · obtain rfl : k = 3 := by omega
      have lw : Below w.heap.size w wr := HWB.out.trans (hbel.mono (by omega))
      obtain ⟨T, hT⟩ : ∃ T, T = nowS zero (fun k => secF m (mk k).toNat (nn k) (F k)) cut 3 := ⟨_, rfl⟩
      obtain ⟨L, hL⟩ : ∃ L : List Value, L = wholeS zero (fun k => secF m (mk k).toNat (nn k) (F k)) s 3 := ⟨_, rfl⟩
      have hS : ∀ r, r < 3 → ¬ (r = 0 ∧ zero = true) → ∀ i, i < s → secF m (mk r).toNat (nn r) (F r) i < 256 := HSEC.out
      have hend := torn_end (cut := cut) hm1 hm2 h44 CUT0.out hval n01 n02 n12 hrow.2.1 hS
      have hmem : ∀ v, v ∈ L ↔ ∃ r, r < 3 ∧ ¬ (r = 0 ∧ zero = true) ∧ v = Value.string (strF (secF m (mk r).toNat (nn r) (F r)) s) := fun v => by rw [hL]; exact wholeS_mem zero _ s v 3
      rw [← hT] at hend hrow
      rw [← hL] at ho
      have hTb := hrow.2.1
      have hyes : okP T m → ∃ j, L[j]? = some (Value.string (strF T s)) := fun h => by
        obtain ⟨r, h1, h2, h3⟩ := hend.1 h
        exact List.mem_iff_getElem?.1 ((hmem _).2 ⟨r, h1, h2, by rw [strF_congr h3]⟩)
      have hno : ∀ (j : Nat) (x : ByteArray), L[j]? = some (Value.string x) → (strF T s).toList = x.toList → okP T m := fun j x h1 h2 => by
        obtain ⟨r, h3, h4, h5⟩ := (hmem _).1 (List.mem_iff_getElem?.2 ⟨j, h1⟩)
        injection h5 with h5
        rw [h5, ByteArray.toList_eq, ByteArray.toList_eq] at h2
        exact hend.2 ⟨r, h3, h4, strF_inj hTb (hS r h3 h4) h2⟩
      have hstr : ∀ j, j < L.length → ∃ x, L[j]? = some (Value.string x) := fun j hj => by
        obtain ⟨r, _, _, h5⟩ := (hmem L[j]).1 (List.getElem_mem hj)
        exact ⟨_, by rw [List.getElem?_eq_getElem hj, h5]⟩
      have hlen : L.length ≤ 3 := by rw [hL]; exact wholeS_len zero _ s 3
      have hpos : 0 < L.length := List.length_pos_of_mem ((hmem _).2 ⟨1, by omega, by omega, rfl⟩)
      obtain ⟨g8, c8, rfl⟩ : ∃ g c, u8 = .slice (some ⟨g, 0, none⟩) L.length c := by
        rcases ho.2 with ⟨_, h0⟩ | ⟨g, cap, cur, hv, _⟩
        · omega
        · exact ⟨g, cap, hv⟩
      have bb : Bytes wr (some ⟨w.heap.size + 1, 0, none⟩) s T := (hrow.bytes (o := 0) (m := s) (by omega)).congr fun i _ => by rw [Nat.zero_add]
      have HY := Lib.hid hyes
      have HN := Lib.hid hno
      have HSTR := Lib.hid hstr
      have HO := Lib.hid ho
      have BB := Lib.hid bb
      clear hT hL hend hmem hyes hno hstr ho bb hval hTb hS hrow hbel
      go_wp2_with fail
      refine (read_all _ s s T wr BB.out (Nat.le_refl _) (by omega)).mono ?_
      rintro e W5 ⟨v5, k5, B5, d5, er, rfl, r5, b5, l5⟩
      have l6 : Below w.heap.size w W5 := lw.trans (l5.mono lw.size)
      have o6 := HO.out.kept (grown_below (r := none) l5) (.inr (by intro h; cases h))
      have kc := fun q : Nat => conv_any (w := W5.drewN q) s (BB.out.below (below_drewN l5 q) (Nat.le_refl _))
      have her : (okP T m → er = 0) ∧ (¬ okP T m → er = 5) :=
        ⟨fun h => (r5.same (.yes hm1 hm2 h44 hm h)).2.2, fun h => (r5.same (.no hm1 hm2 h44 hm h)).2.2⟩
      have HER := Lib.hid her
      have hcell : ∀ i, i < L.length → ∃ x, L[i]? = some (Value.string x) ∧ ∀ q, (W5.drewN q).cell? ⟨g8, i, none⟩ = some (.string x) := fun i hi => by
        obtain ⟨x, hx⟩ := HSTR.out i hi
        exact ⟨x, hx, fun _ => (o6.cellAt i (by omega)).trans hx⟩
      have HC := Lib.hid hcell
      clear o6 l5 lw b5 r5 her hcell HSTR HO
      go_wp2
      go_loopw [16] (fun t wl => ∃ i : Nat, i ≤ L.length ∧ t = .int .i64 i ∧ (∃ q, wl = W5.drewN q) ∧ Hid (∀ (j : Nat) (x : ByteArray), j < i → L[j]? = some (Value.string x) → ((strF T s).toList == x.toList) = false)) (fun t _ => L.length - (intOf t).toNat)
      case atStart => exact ⟨0, by omega, rfl, ⟨0, rfl⟩, fun j x hj => absurd hj (by omega)⟩
      case round =>
        obtain ⟨i, hi, rfl, ⟨q, rfl⟩, hprev⟩ := hrel
        by_cases hlt : i < L.length
        · obtain ⟨x, hx, hcx⟩ := HC.out i hlt
          by_cases heq : ((strF T s).toList == x.toList) = true
          · have q1 : (er == 0) = true := by simpa using HER.out.1 (HN.out i x hx (by simpa using heq))
            have kc2 := fun n : Nat => kc (q + n)
            have hcx2 := fun n : Nat => hcx (q + n)
            have HX := Lib.hid hx
            clear hx hcx kc
            go_wp2
            go_quiet (fail)
            go_wp2_with fail
            refine (awake_any _).mono ?_
            rintro e W6 ⟨rfl, l7⟩
            have l8 : Below w.heap.size w W6 := (below_drewN l6 (q + nq)).trans (l7.mono l6.size)
            clear l7 l6
            go_wp2
            go_ret
            exact ⟨rfl, l8⟩
          · have heq2 : ((strF T s).toList == x.toList) = false := by simpa using heq
            have HP : Hid (∀ (j : Nat) (x : ByteArray), j < i + 1 → L[j]? = some (Value.string x) → ((strF T s).toList == x.toList) = false) := fun j y hj hy => by
              rcases Nat.lt_or_ge j i with h | h
              · exact hprev.out j y h hy
              · obtain rfl : j = i := by omega
                rw [hx] at hy
                injection hy with hy
                injection hy with hy
                rw [← hy]
                exact heq2
            have kc2 := fun n : Nat => kc (q + n)
            have hcx2 := fun n : Nat => hcx (q + n)
            have HX := Lib.hid hx
            clear hx hcx kc heq
            go_wp2
            go_quiet (fail)
            go_wp2
            go_roundw
            case rel => exact ⟨i + 1, by omega, by go_num, ⟨_, rfl⟩, HP⟩
            case measure => simp [intOf]; omega
        · have hno : ¬ okP T m := fun h => by
            obtain ⟨j, hj⟩ := HY.out h
            have hjl : j < L.length := (List.getElem?_eq_some_iff.1 hj).1
            have := hprev.out j _ (by omega) hj
            simp at this
          have q1 : (er == 5) = true := by simpa using HER.out.2 hno
          clear hno kc
          go_wp2_with fail
          refine (awake_any _).mono ?_
          rintro e W6 ⟨rfl, l7⟩
          have l8 : Below w.heap.size w W6 := (below_drewN l6 q).trans (l7.mono l6.size)
          clear l7 l6
          go_wp2
          go_ret
          exact ⟨rfl, l8⟩
end Go.Proofs.Ytmkpknjhbkbafaa
