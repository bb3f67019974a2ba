/- hash's cells: an iterator over a block's cells' ranges: its contract. -/
import Derived.Test.YtihigingddaopaaDoorHBlk
import Derived.RangeFuncNested
import Derived.RangeFuncBound
import Derived.RangeFuncCalls
import Derived.RangeFuncLeaves
import Derived.RangeFuncBox
import Derived.Shelf.Abstract
import Derived.Shelf.RegionOpen
import Derived.WalkKit
import Derived.OwnWalkIn
import Derived.TacticsInMore
import Derived.LoopNIn
import Derived.LoopIn
import Derived.Sort.CutIn
import Derived.Maps.OwnIn
namespace Go.Proofs.YtihigingddaopaaDoor
open Go.RowKit
set_option linter.unusedVariables false
set_option linter.unusedSimpArgs false

open Go.Shelf
attribute [local go_sem] Oper.semAt_some
abbrev encR (x : Rg) : Array Value := #[.agg #[.int .u64 (x.1 : Nat), .int .u64 (x.2 : Nat)]]
/-- What a round that goes on keeps: what lay below n₀, and the iterator's own box. -/
def KpE (n₀ Bs : Nat) (A B : World) : Prop := Below n₀ A B ∧ B.heap[Bs]? = A.heap[Bs]?
theorem KpE.t {n₀ Bs : Nat} {A B C : World} (h : KpE n₀ Bs A B) (k : KpE n₀ Bs B C) : KpE n₀ Bs A C := ⟨h.1.trans k.1, k.2.trans h.2⟩
theorem KpE.b {n₀ Bs : Nat} {w : World} (hn : n₀ ≤ w.heap.size) (hb : Bs < w.heap.size) (W : World) (l : Nat) (o o' : Obj) (hl : w.heap.size ≤ l) (h : W.heap[l]? = some o) (h1 : o.isCells = false) (h2 : o.isWalk = false) : KpE n₀ Bs W (W.putObj l o') :=
  ⟨belowK_b hn W l o o' hl h h1 h2, (grownBy_putObj' W l o').block Bs (by have := (Array.getElem?_eq_some_iff.1 h).1; omega) (fun e => by cases e; omega)⟩
theorem KpE.refl (n₀ Bs : Nat) (W : World) : KpE n₀ Bs W W := ⟨Below.refl _ _, rfl⟩
theorem KpE.below {n₀ Bs : Nat} {A B : World} (h : Below A.heap.size A B) (hn : n₀ ≤ A.heap.size) (hb : Bs < A.heap.size) : KpE n₀ Bs A B := ⟨h.mono hn, h.block Bs hb⟩
theorem yield_two {e : Ending} {P Q : Prop} (h : (e = .returned (.bool true) ∧ P) ∨ (e = .returned (.bool false) ∧ Q)) : ∃ b : Bool, e = .returned (.bool b) ∧ ((b = true ∧ P) ∨ (b = false ∧ Q)) := by
  rcases h with ⟨h1, h2⟩ | ⟨h1, h2⟩
  · exact ⟨true, h1, .inl ⟨rfl, h2⟩⟩
  · exact ⟨false, h1, .inr ⟨rfl, h2⟩⟩
theorem mix_small {x y j : Nat} (hj : j ≤ 32) (hx : x < 2 ^ j) (hy : y < 2 ^ j) : mixN x y 32 < 4 ^ j := by
  have h2 : (2 : Nat) ^ j ≤ 2 ^ 32 := Nat.pow_le_pow_right (by omega) hj
  have hx2 : x < 4294967296 := Nat.lt_of_lt_of_le hx h2
  have hy2 : y < 4294967296 := Nat.lt_of_lt_of_le hy h2
  have h := mix_div j hx2 hy2
  rw [Nat.div_eq_of_lt hx, Nat.div_eq_of_lt hy] at h
  have h0 : mixN 0 0 32 = 0 := by decide +kernel
  rw [h0] at h
  exact (Nat.div_eq_zero_iff_lt (Nat.pow_pos (by omega))).1 h
theorem up_lt {v k : Nat} (hk : k ≤ 32) (hv : v < 4294967296) : v / 2 ^ k < 2 ^ (32 - k) := by
  rw [Nat.div_lt_iff_lt_mul (Nat.two_pow_pos k), ← Nat.pow_add]
  rw [show 32 - k + k = 32 by omega]
  exact hv
/-- A cell's range ends within 64 bits. -/
theorem rg_top {x y k : Nat} (hk : k ≤ 32) (hx : x < 2 ^ (32 - k)) (hy : y < 2 ^ (32 - k)) : mixN x y 32 * 4 ^ k + 4 ^ k ≤ 18446744073709551616 := by
  have h := mix_small (j := 32 - k) (by omega) hx hy
  have h2 : (mixN x y 32 + 1) * 4 ^ k ≤ 4 ^ (32 - k) * 4 ^ k := Nat.mul_le_mul_right _ h
  rw [← Nat.pow_add, show 32 - k + k = 32 by omega, Nat.add_mul, Nat.one_mul] at h2
  exact h2
theorem or_low (m k : Nat) : (m * 4 ^ k) ||| (4 ^ k - 1) = m * 4 ^ k + 4 ^ k - 1 := by
  have hu : 0 < 4 ^ k := Nat.pow_pos (by omega)
  have e := Nat.two_pow_add_eq_or_of_lt (b := 4 ^ k - 1) (i := 2 * k) (by rw [← pow4]; omega) m
  rw [← pow4, Nat.mul_comm] at e
  rw [← e]
  omega
def preX (k a c d x : Nat) : List Rg := ((List.range' a (x - a)).flatMap (colL c d)).map (rgOf k)
def preXY (k a c d x y : Nat) : List Rg := preX k a c d x ++ (List.range' c (y - c)).map fun y => rgOf k (mixN x y 32)
def cellsR (k : Nat) (B : Bk) : List Rg := B.codes.map (rgOf k)
theorem preX_start (k a c d : Nat) : preX k a c d a = [] := by simp [preX]
theorem preXY_start (k a c d x : Nat) : preXY k a c d x c = preX k a c d x := by simp [preXY]
theorem preXY_succ (k a c d x y : Nat) (h : c ≤ y) : preXY k a c d x (y + 1) = preXY k a c d x y ++ [rgOf k (mixN x y 32)] := by
  unfold preXY
  rw [show y + 1 - c = (y - c) + 1 by omega, List.range'_concat, List.map_append, List.append_assoc]
  congr 2
  simp
  congr 2
  omega
theorem preX_succ (k a c d x : Nat) (h : a ≤ x) : preXY k a c d x (d + 1) = preX k a c d (x + 1) ∨ d < c := by
  by_cases hd : c ≤ d
  · left
    unfold preXY preX
    rw [show x + 1 - a = (x - a) + 1 by omega, List.range'_concat, List.flatMap_append, List.map_append]
    congr 1
    simp only [List.flatMap_cons, List.flatMap_nil, List.append_nil, Nat.one_mul]
    rw [show a + (x - a) = x by omega]
    unfold colL
    rw [List.map_map, show d + 1 - c = d - c + 1 by omega]
    rfl
  · right; omega
theorem preX_all (k : Nat) (B : Bk) (h : B.a ≤ B.b) : preX k B.a B.c B.d (B.b + 1) = cellsR k B := by
  unfold preX cellsR Bk.codes codesL
  rw [show B.b + 1 - B.a = B.b - B.a + 1 by omega]
theorem preX_len (k a c d x : Nat) : (preX k a c d x).length = (x - a) * (d - c + 1) := by
  unfold preX
  rw [List.length_map]
  cases hx : x - a with
  | zero => simp
  | succ n =>
    have := codes_len a (a + n) c d
    unfold codesL at this
    rw [show a + n - a = n by omega] at this
    exact this
theorem preXY_len (k a c d x y : Nat) : (preXY k a c d x y).length = (x - a) * (d - c + 1) + (y - c) := by
  unfold preXY
  rw [List.length_append, preX_len]
  simp
theorem preXY_lt {k a b c d x y : Nat} (h1 : a ≤ x) (h2 : x ≤ b) (h3 : c ≤ y) (h4 : y ≤ d) : (preXY k a c d x y).length < (b - a + 1) * (d - c + 1) := by
  rw [preXY_len]
  have h := Nat.mul_le_mul_right (d - c + 1) (show x - a + 1 ≤ b - a + 1 by omega)
  rw [Nat.add_mul (x - a), Nat.one_mul] at h
  omega
theorem within_eq {k : Nat} (hk : k ≤ 32) : (18446744073709551615 : Int) / 2 ^ (2 * (32 - k)) = ((4 ^ k - 1 : Nat) : Int) := by
  have h1 : (2 : Nat) ^ (2 * (32 - k)) * 4 ^ k = 18446744073709551616 := by
    rw [pow4, ← Nat.pow_add, show 2 * (32 - k) + 2 * k = 64 by omega]
  have hu : 0 < 4 ^ k := Nat.pow_pos (by omega)
  have hm : 0 < 2 ^ (2 * (32 - k)) := Nat.two_pow_pos _
  have h2 : 18446744073709551615 / 2 ^ (2 * (32 - k)) = 4 ^ k - 1 := by
    generalize (2 : Nat) ^ (2 * (32 - k)) = m at *
    generalize (4 : Nat) ^ k = u at *
    obtain ⟨v, rfl⟩ : ∃ v, u = v + 1 := ⟨u - 1, by omega⟩
    rw [Nat.mul_add, Nat.mul_one] at h1
    rw [Nat.add_sub_cancel]
    apply Nat.div_eq_of_lt_le
    · rw [Nat.mul_comm]; omega
    · rw [Nat.add_mul, Nat.one_mul, Nat.mul_comm]; omega
  rw [← h2]
  generalize 2 * (32 - k) = e
  rw [Int.natCast_ediv, Int.natCast_pow]
  rfl
theorem shl_run {m k : Nat} (h : m * 4 ^ k < 18446744073709551616) : IntKind.u64.wrap ((m : Int) * 2 ^ (2 * k)) = ((m * 4 ^ k : Nat) : Int) := by
  have e2 : (m : Int) * 2 ^ (2 * k) = ((m * 4 ^ k : Nat) : Int) := by
    rw [pow4, Int.natCast_mul, Int.natCast_pow]
    rfl
  rw [e2, wrap64_nat h]
set_option maxRecDepth 100000 in
set_option maxHeartbeats 8000000 in
theorem cell1_in (n : Nat) (hn : 2 ≤ n) (l Bs : Nat) (w0 : World) (k : Nat) (hk : k ≤ 32) (B : Bk) (hB : B.fit) (hbl : B.b < 2 ^ (32 - k)) (hdl : B.d < 2 ^ (32 - k)) (hT : MaskT w0) (J Jx : List Rg → World → Prop) (W : World) (hJ : AbidesFrom W.heap.size J)
    (hY : ∀ pre x W1, J pre W1 → pre.length < B.cnt → YieldAt Fence.wide (n - 1) Tryd.prog l (encR x) W1 fun e W' =>
      (e = .returned (.bool true) ∧ J (pre ++ [x]) W' ∧ KpE w0.heap.size Bs W1 W') ∨ (e = .returned (.bool false) ∧ Jx (pre ++ [x]) W'))
    (hB0 : Below w0.heap.size w0 W) (hBs : W.heap[Bs]? = some (.cells (bkA k B) 37 (0, 0))) (h0 : J [] W) :
    CallsIn Fence.wide n Tryd.prog 21 #[.func (.yield l) #[] #[], .pointer (some ⟨Bs, 0, none⟩)] W fun e W' => (∃ v, e = .returned v) ∧
      ((∃ ys, ys = cellsR k B ∧ J ys W') ∨ (∃ pre, True ∧ Jx pre W')) := by
  refine callsIn_of_wp Tryd.func21 rfl trivial ?_ rfl
  simp only [Tryd.ntmps21, List.size_toArray, List.length_cons, List.length_nil, Nat.reduceAdd, Nat.reduceSub, Array.replicate_succ, Array.replicate_zero, List.push_toArray, List.append_toArray, List.nil_append, List.cons_append]
  obtain ⟨a, c, b, d⟩ := B
  have HFit := Lib.hid hB
  obtain ⟨f1, f2, f3, f4⟩ := hB
  dsimp only at f1 f2 f3 f4 hbl hdl hY
  have HY := Lib.hid hY
  have HJ := Lib.hid hJ
  have H0 := Lib.hid h0
  have HB := Lib.hid hB0
  have HT := Lib.hid hT
  have hBl : Bs < W.heap.size := (Array.getElem?_eq_some_iff.1 hBs).1
  have HS := Lib.hid hBs
  have cell : ∀ W' : World, W'.heap[Bs]? = W.heap[Bs]? → (W'.cell? ⟨Bs, 0, none⟩ = some (.int .i64 (32 - (k : Int))) ∧ W'.cell? ⟨Bs, 1, none⟩ = some (.int .u32 (a : Nat)) ∧ W'.cell? ⟨Bs, 2, none⟩ = some (.int .u32 (c : Nat)) ∧ W'.cell? ⟨Bs, 3, none⟩ = some (.int .u32 (b : Nat)) ∧ W'.cell? ⟨Bs, 4, none⟩ = some (.int .u32 (d : Nat))) := fun W' e => by
    have e2 := e.trans HS.out
    refine ⟨?_, ?_, ?_, ?_, ?_⟩ <;> (unfold World.cell?; rw [e2]; rfl)
  have HCell := Lib.hid cell
  obtain ⟨b0, b1, b2, b3, b4⟩ := cell W rfl
  clear hY hJ h0 hB0 hT hBs cell
  have hkI : (k : Int) ≤ 32 := by omega
  have hwi := within_eq hk
  obtain ⟨q, hq⟩ : ∃ q, 4 ^ k - 1 = q := ⟨_, rfl⟩
  rw [hq] at hwi
  have HQ := Lib.hid hq
  have HWi := Lib.hid hwi
  clear hwi hq
  gi_wp2
  rw [HWi.out]
  clear b0 b1 b2 b3 b4
  gi_loopw [4] (fun xv wr => ∃ x : Nat, a ≤ x ∧ x ≤ b + 1 ∧ xv = .int .u32 x ∧ J (preX k a c d x) wr ∧ KpE w0.heap.size Bs W wr ∧ W.heap.size ≤ wr.heap.size) (fun xv _ => b + 1 - (intOf xv).toNat)
  case atStart => exact ⟨a, Nat.le_refl _, by omega, rfl, by rw [preX_start]; exact H0.out, KpE.refl _ _ _, Nat.le_refl _⟩
  case round =>
    obtain ⟨x, hx1, hx2, rfl, hJs, hkp, hsz⟩ := hrel
    obtain ⟨wa, hwa⟩ : ∃ wa, wa = wr := ⟨_, rfl⟩
    subst hwa
    have HJs := Lib.hid hJs
    have HK := Lib.hid hkp
    obtain ⟨b0, b1, b2, b3, b4⟩ := HCell.out wa hkp.2
    clear hJs hkp
    by_cases hlt : x ≤ b
    · have hxI : (x : Int) ≤ (b : Int) := by omega
      gi_wp2
      clear b0 b1 b2 b3 b4
      gi_loopw [5] (fun yv wr => ∃ y : Nat, c ≤ y ∧ y ≤ d + 1 ∧ yv = .int .u32 y ∧ J (preXY k a c d x y) wr ∧ KpE w0.heap.size Bs W wr ∧ W.heap.size ≤ wr.heap.size) (fun yv _ => d + 1 - (intOf yv).toNat)
      case atStart => exact ⟨c, Nat.le_refl _, by omega, rfl, by rw [preXY_start]; exact HJs.out, HK.out, hsz⟩
      case round =>
        obtain ⟨y, hy1, hy2, rfl, hJ2, hkp2, hsz2⟩ := hrel
        obtain ⟨wo, hwo⟩ : ∃ wo, wo = wr := ⟨_, rfl⟩
        subst hwo
        have HJ2 := Lib.hid hJ2
        have HK2 := Lib.hid hkp2
        obtain ⟨b0, b1, b2, b3, b4⟩ := HCell.out wo hkp2.2
        clear hJ2 hkp2
        by_cases hlt2 : y ≤ d
        · have hyI : (y : Int) ≤ (d : Int) := by omega
          gi_upto_region 7 with fail
          have hx32 : x < 4294967296 := by omega
          have hy32 : y < 4294967296 := by omega
          have hTo : MaskT wo := HT.out.below (HB.out.trans (HK2.out.1))
          have KM := Lib.hid fun V (hb : Below wo.heap.size wo V) => (mixed32_any x y hx32 hy32 V (hTo.below hb)).mono (fun e w' h => (⟨h.1, hb.trans (h.2.mono hb.size)⟩ : e = _ ∧ Below wo.heap.size wo w'))
          have hBlo : Bs < wo.heap.size := Nat.lt_of_lt_of_le hBl hsz2
          have htop := rg_top (k := k) hk (Nat.lt_of_le_of_lt hlt hbl) (Nat.lt_of_le_of_lt hlt2 hdl)
          have hol := or_low (mixN x y 32) k
          have hps := preXY_succ k a c d x y hy1
          have hpl := preXY_lt (k := k) hx1 hlt hy1 hlt2
          unfold rgOf at hps
          obtain ⟨m, hm⟩ : ∃ m, mixN x y 32 = m := ⟨_, rfl⟩
          rw [hm] at KM htop hol hps
          have hup : 0 < 4 ^ k := Nat.pow_pos (by omega)
          have hsh := shl_run (m := m) (k := k) (by omega)
          rw [HQ.out] at hol
          have hql : q < 18446744073709551616 := by rw [← HQ.out]; omega
          obtain ⟨lo, hlo⟩ : ∃ lo, m * 4 ^ k = lo := ⟨_, rfl⟩
          rw [hlo] at hsh hol htop hps
          obtain ⟨hi, hhi⟩ : ∃ hi, lo + 4 ^ k - 1 = hi := ⟨_, rfl⟩
          rw [hhi] at hol hps
          have hor := u64_or_nat lo q (by omega) hql
          rw [hol] at hor
          have HPS := Lib.hid hps
          have HPL := Lib.hid hpl
          have hw1 : IntKind.i64.wrap (32 - (32 - (k : Int))) = (k : Int) := by rw [IntWalk.i64_in _ (by omega)]; omega
          have hw2 : IntKind.i64.wrap (2 * (k : Int)) = 2 * (k : Int) := IntWalk.i64_in _ (by omega)
          clear b1 b2 b3 b4 hTo htop hol hps hpl hm hup hql hlo hhi
          have hmx : Tryd.prog.follows .mixedOrders = true := by kernel_rfl
          have hn1 : 1 ≤ n := by omega
          gi_region_with_o (refine ⟨trivial, CallsIn.mono (callsIn_wide.2 (KM.out _ (by first | exact Below.refl _ _ | exact (Below.refl _ _).drew))) ?_⟩; rintro _ w3 ⟨rfl, l3⟩; have c3 := kp' l3 hBlo b0; have L3 := Lib.hid l3; clear l3)
          all_goals
            gi_wp2
            obtain ⟨fn, tmps, assign, body, hy, hRd⟩ := HY.out _ (lo, hi) w3 (HJ.out _ _ _ none HJ2.out (grown_below L3.out) (by simp)) HPL.out
            have HR := Lib.hid hRd
            clear hRd
            rw [hy]
            refine ⟨fun _ => hn1, HR.out.mono ?_⟩
            have hK3 : KpE w0.heap.size Bs W w3 := HK2.out.t (KpE.below L3.out (Nat.le_trans HB.out.size hsz2) hBlo)
            have hs3 : W.heap.size ≤ w3.heap.size := Nat.le_trans hsz2 L3.out.size
            have HK3 := Lib.hid hK3
            clear hK3
            rintro e W3 (⟨rfl, hJ3, hk3⟩ | ⟨rfl, hJx3⟩)
            · have HJ3 := Lib.hid (show J (preXY k a c d x (y + 1)) W3 by rw [HPS.out]; exact hJ3)
              have HK4 := Lib.hid (HK3.out.t hk3)
              have hs4 : W.heap.size ≤ W3.heap.size := Nat.le_trans hs3 (hk3.1.size)
              clear hJ3 hk3 hy hsh hor hw1 hw2 c3 b0
              gi_wp2
              exact ⟨⟨y + 1, by omega, by omega, by first | rfl | go_num | simp, HJ3.out, HK4.out, hs4⟩, by simp [intOf]; omega⟩
            · have HJX := Lib.hid hJx3
              clear hJx3 hy hsh hor hw1 hw2 c3 b0
              gi_wp2
              refine bodyPost_ret (results_none rfl _ _ _) rfl ?_
              exact ⟨⟨_, rfl⟩, .inr ⟨_, trivial, HJX.out⟩⟩
        · obtain rfl : y = d + 1 := by omega
          have hyI : ¬ ((d + 1 : Nat) : Int) ≤ (d : Int) := by omega
          have hyD : decide (((d + 1 : Nat) : Int) ≤ (d : Int)) = false := by simp; omega
          have HJ3 := Lib.hid (show J (preX k a c d (x + 1)) wo by
            rcases preX_succ k a c d x hx1 with h | h
            · rw [← h]; exact HJ2.out
            · omega)
          gi_wp2
          exact ⟨⟨x + 1, by omega, by omega, by first | rfl | go_num | simp, HJ3.out, HK2.out, hsz2⟩, by simp [intOf]; omega⟩
    · obtain rfl : x = b + 1 := by omega
      have hxI : ¬ ((b + 1 : Nat) : Int) ≤ (b : Int) := by omega
      have HJ3 := Lib.hid (show J (cellsR k ⟨a, c, b, d⟩) wa by rw [← preX_all k ⟨a, c, b, d⟩ f1]; exact HJs.out)
      gi_wp2
      go_end0
      exact ⟨⟨_, rfl⟩, .inl HJ3.out⟩
theorem cell_stops (n : Nat) (hn : 2 ≤ n) (Bs : Nat) (w0 : World) (k : Nat) (hk : k ≤ 32) (B : Bk) (hB : B.fit) (hbl : B.b < 2 ^ (32 - k)) (hdl : B.d < 2 ^ (32 - k)) (hT : MaskT w0) (w : World) (hB0 : Below w0.heap.size w0 w) (hBs : w.heap[Bs]? = some (.cells (bkA k B) 37 (0, 0))) :
    SeqStopsK Fence.wide n Tryd.prog 21 #[.pointer (some ⟨Bs, 0, none⟩)] encR (KpE w0.heap.size Bs) (fun ys => ys = cellsR k B) (fun _ => True) B.cnt w := fun l J Jx W hW hJ _ hY h0 =>
  cell1_in n hn l Bs w0 k hk B hB hbl hdl hT J Jx W hJ hY (hB0.trans (hW.mono hB0.size)) ((hW.block Bs (Array.getElem?_eq_some_iff.1 hBs).1).trans hBs) h0
end Go.Proofs.YtihigingddaopaaDoor
