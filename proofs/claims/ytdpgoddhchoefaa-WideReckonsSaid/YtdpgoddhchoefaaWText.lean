/- wide's Text: the walk. -/
import Derived.Test.YtdpgoddhchoefaaWTen
import Derived.Test.YtdpgoddhchoefaaWStr
import Derived.Deep.DeepCutAuto
import Derived.Deep.LoopGhost
import Derived.WalkLawsBesides
namespace Go.Proofs.Ytdpgoddhchoefaa
open Go.RowKit
set_option linter.unusedVariables false

def ArrB (w : World) (b : Nat) (F : Nat → Nat) : Prop := w.rowIs b 85 40 (fun i => .int .u8 (F i))
theorem arrB_start (w : World) : ArrB (w.alloc (.cells (Array.replicate 40 (.int .u8 0)) 85)) w.heap.size (fun _ => 0) := by
  have h := World.rowIs_alloc w (Array.replicate 40 (.int .u8 0)) 85 (fun _ => .int .u8 0) (fun i hi => by
    rw [Array.size_replicate] at hi
    rw [Array.getElem?_replicate, if_pos hi])
  rwa [Array.size_replicate] at h
theorem arrB_two (w w2 : World) (o : Obj) (l : Below ((w.alloc o).alloc (.cells (Array.replicate 40 (.int .u8 0)) 85)).heap.size ((w.alloc o).alloc (.cells (Array.replicate 40 (.int .u8 0)) 85)) w2) : ArrB w2 (w.heap.size + 1) fun _ => 0 := by
  have h := arrB_start (w.alloc o)
  rw [World.size_alloc] at h
  exact World.rowIs.of_block h (l.block _ (by simp))
def updN (F : Nat → Nat) (t v : Nat) : Nat → Nat := fun j => if j = t then v else F j
theorem ArrB.set {w : World} {b : Nat} {F : Nat → Nat} (h : ArrB w b F) (i v : Nat) (u : Int) (hu : u = (v : Int)) : ArrB (w.setCell ⟨b, i, none⟩ (.int .u8 u)) b (updN F i v) := by
  subst hu
  exact (World.rowIs.set h i (.int .u8 v)).congr fun j _ => by unfold updN; by_cases e : j = i <;> simp [e]
/-- What has been written: the figures at the end. -/
def Figs' (F : Nat → Nat) (N m : Nat) : Prop := ∀ j, j < 40 - m → F (39 - j) = 48 + N / 10 ^ j % 10
theorem Figs'.next {F : Nat → Nat} {N m : Nat} (h : Figs' F N (m + 1)) (hm : m < 40) : Figs' (updN F m (48 + N / 10 ^ (40 - (m + 1)) % 10)) N m := by
  intro j hj
  unfold updN
  by_cases e : j = 39 - m
  · subst e
    rw [if_pos (by omega)]
    have : 40 - (m + 1) = 39 - m := by omega
    rw [this]
  · rw [if_neg (by omega)]
    exact h j (by omega)
def Going (N m : Nat) (first : Value) : Prop := (m = 40 ∧ first = .bool true) ∨ (m < 40 ∧ first = .bool false ∧ (m = 39 ∨ 10 ^ (39 - m) ≤ N))
theorem txt_next {N m R d : Nat} {F : Nat → Nat} {h' l' : Int} (h1 : 1 ≤ m) (hm : m ≤ 40) (hR : R = N / 10 ^ (40 - m)) (hgo : m = 40 ∨ 0 < R)
    (hd : d = R % 10 ∧ h' = ((R / 10 : Nat) : Int) / 18446744073709551616 ∧ l' = ((R / 10 : Nat) : Int) % 18446744073709551616) (hfig : Figs' F N m) :
    h' = ((N / 10 ^ (40 - (m - 1)) : Nat) : Int) / 18446744073709551616 ∧ l' = ((N / 10 ^ (40 - (m - 1)) : Nat) : Int) % 18446744073709551616 ∧ Going N (m - 1) (.bool false) ∧ Figs' (updN F (m - 1) (48 + d)) N (m - 1) := by
  have e : N / 10 ^ (40 - (m - 1)) = R / 10 := by
    rw [hR, show 40 - (m - 1) = (40 - m) + 1 by omega, Nat.pow_succ, Nat.div_div_eq_div_mul]
  rw [e]
  refine ⟨hd.2.1, hd.2.2, .inr ⟨by omega, rfl, ?_⟩, ?_⟩
  · rcases hgo with h | h
    · exact .inl (by omega)
    · right
      rw [show 39 - (m - 1) = 40 - m by omega]
      rcases Nat.lt_or_ge N (10 ^ (40 - m)) with hlt | hge
      · rw [hR, Nat.div_eq_of_lt hlt] at h; omega
      · exact hge
  · obtain ⟨n, rfl⟩ : ∃ n, m = n + 1 := ⟨m - 1, by omega⟩
    rw [hd.1, hR]
    exact hfig.next (by omega)
theorem txt_end {N m : Nat} {F : Nat → Nat} (hb : N ≤ 170141183460469231731687303715884105728) (hm : m < 40) (h0 : N / 10 ^ (40 - m) = 0) (hg : m = 39 ∨ 10 ^ (39 - m) ≤ N) (hfig : Figs' F N m) :
    1 ≤ m ∧ (∀ i, i < 40 - m → F (m + i) < 256) ∧ (List.range (40 - m)).map (fun i => UInt8.ofNat (F (m + i))) = Lib.decDigits N := by
  have hlt : N < 10 ^ (40 - m) := by
    rcases Nat.lt_or_ge N (10 ^ (40 - m)) with h | h
    · exact h
    · have := Nat.div_pos h (Nat.pow_pos (by omega)); omega
  have h1 : 1 ≤ m := by
    rcases Nat.eq_zero_or_pos m with h | h
    · subst h
      rcases hg with h | h
      · omega
      · have : (10 : Nat) ^ (39 - 0) = 1000000000000000000000000000000000000000 := by decide
        omega
    · exact h
  have hF : ∀ i, i < 40 - m → F (m + i) = 48 + N / 10 ^ (40 - m - 1 - i) % 10 := by
    intro i hi
    have := hfig (40 - m - 1 - i) (by omega)
    rw [← this]
    congr 1
    omega
  refine ⟨h1, fun i hi => by rw [hF i hi]; omega, ?_⟩
  have e := dec_digL (39 - m) N (by rw [show 39 - m + 1 = 40 - m by omega]; exact hlt) (by rcases hg with h | h; exact .inl (by omega); exact .inr h)
  rw [e, show 39 - m + 1 = 40 - m by omega]
  unfold digL
  exact List.map_congr_left fun i hi => by rw [hF i (List.mem_range.1 hi)]
theorem int_eq {k : IntKind} {a b : Int} (h : a = b) : Value.int k a = Value.int k b := by rw [h]
theorem arr_bytes {w : World} {b m : Nat} {F : Nat → Nat} (h : ArrB w b F) (hm : m ≤ 40) (hb : ∀ i, i < 40 - m → F (m + i) < 256) : Bytes w (some ⟨b, m, none⟩) (40 - m) (fun i => F (m + i)) :=
  ⟨by omega, hb, fun _ => ⟨b, m, rfl, fun i hi => World.rowIs.cell h (by omega)⟩⟩
set_option maxHeartbeats 4000000 in
set_option maxRecDepth 100000 in
theorem text_any (x : Int) (w : World) : Calls Try.prog 25 #[.agg #[.int .i64 (hiW x), .int .u64 (loW x)]] w fun e w' => e = .returned (.string ⟨(textL x).toArray⟩) ∧ Below w.heap.size w w' := by
  have HS := Lib.hid (fun W => size_any x W)
  obtain ⟨N, hN⟩ : ∃ N, N = szW x := ⟨_, rfl⟩
  rw [← hN] at HS
  have hNb := szW_bd x
  rw [← hN] at hNb
  have HN := Lib.hid hN
  have HB := Lib.hid hNb
  clear hN hNb
  go_enter Try.func25, Try.ntmps25
  go_wp2_with (go_at_call 71; (with_reducible refine (HS.out _).mono ?_); rintro e w2 ⟨rfl, l1⟩; have L1 := Lib.hid l1; clear l1)
  go_loopw [4, 5, 6, 7, 8] (fun a hi lo first fig wr => ∃ (m : Nat) (h l : Int) (F : Nat → Nat), a = .int .i64 m ∧ m ≤ 40 ∧ hi = .int .u64 h ∧ lo = .int .u64 l ∧ h = ((N / 10 ^ (40 - m) : Nat) : Int) / 18446744073709551616 ∧ l = ((N / 10 ^ (40 - m) : Nat) : Int) % 18446744073709551616 ∧ Going N m first ∧ ArrB wr (w.heap.size + 1) F ∧ Figs' F N m ∧ Below (w.heap.size + 1) (w.alloc (.cells #[.int .i64 (hiW x), .int .u64 (loW x)] 24)) wr) (fun a _ _ _ _ _ => (intOf a).toNat)
  case atStart =>
    exact ⟨40, _, _, fun _ => 0, rfl, by omega, rfl, rfl, by rw [Nat.sub_self, Nat.pow_zero, Nat.div_one], by rw [Nat.sub_self, Nat.pow_zero, Nat.div_one], .inl ⟨rfl, rfl⟩, arrB_two w _ _ L1.out, fun j hj => by omega, ((Below.refl _ _).alloc (by simp) _).trans (L1.out.mono (by simp))⟩
  case round =>
    obtain ⟨m, h, l, F, rfl, hm, rfl, rfl, hh, hl, hg, hF, hfig, hbel⟩ := hrel
    obtain ⟨R, hR⟩ : ∃ R, R = N / 10 ^ (40 - m) := ⟨_, rfl⟩
    rw [← hR] at hh hl
    have hNb := HB.out
    have hRb : R < 340282366920938463463374607431768211456 := by
      have : R ≤ N := by rw [hR]; exact Nat.div_le_self _ _
      omega
    have hbx : wr.cell? ⟨w.heap.size, 0, none⟩ = some (.int .i64 (hiW x)) := by
      rw [show wr.cell? ⟨w.heap.size, 0, none⟩ = _ from hbel.cell (p := ⟨w.heap.size, 0, none⟩) (by simp)]
      go_simp
    have HF := Lib.hid hF
    have HFig := Lib.hid hfig
    have HBel := Lib.hid hbel
    have HR := Lib.hid hR
    clear hF hfig hbel
    by_cases hgo : m = 40 ∨ 0 < R
    · have hm1 : 1 ≤ m := by
        rcases hgo with h | h
        · omega
        · rcases Nat.eq_zero_or_pos m with h0 | h0
          · rw [hR, h0, Nat.sub_zero, Nat.div_eq_of_lt (by omega)] at h
            omega
          · exact h0
      have K := tenth_any R hRb
      rw [← hh, ← hl] at K
      have HK := Lib.hid K
      obtain ⟨d, hd⟩ : ∃ d, d = R % 10 := ⟨_, rfl⟩
      have hd9 : d ≤ 9 := by omega
      rw [← hd] at HK
      obtain ⟨h', hh'⟩ : ∃ h', h' = ((R / 10 : Nat) : Int) / 18446744073709551616 := ⟨_, rfl⟩
      obtain ⟨l', hl'⟩ : ∃ l', l' = ((R / 10 : Nat) : Int) % 18446744073709551616 := ⟨_, rfl⟩
      rw [← hh', ← hl'] at HK
      have h0' : 0 ≤ h' := by omega
      have l0' : 0 ≤ l' := by omega
      have HD := Lib.hid (And.intro hd (And.intro hh' hl'))
      have HH := Lib.hid (And.intro hh hl)
      have em : ((m : Int) - 1).toNat = m - 1 := by omega
      have hwz := HF.out.lt
      have T := Lib.hid (txt_next hm1 hm hR hgo ⟨hd, hh', hl'⟩ HFig.out)
      have hmI : (m : Int) ≤ 40 := by omega
      have hmI1 : 1 ≤ (m : Int) := by omega
      clear hd hh' hl' K hNb hRb hR hh hl
      rcases hg with ⟨g1, rfl⟩ | ⟨g1, rfl, g2⟩
      · have G1 := Lib.hid g1
        clear g1 hgo
        go_wp2_with (go_at_call 72; (with_reducible refine (HK.out _).mono ?_); rintro e w3 ⟨rfl, l3⟩; have HF3 := Lib.hid (World.rowIs.of_block HF.out (l3.block _ HF.out.lt)); have hfz3 := HF3.out.frozen (m - 1); have hc3 := HF3.out.cell (i := m - 1) (by omega); have HL3 := Lib.hid l3; clear l3)
        go_wp2
        go_roundw
        case rel => exact ⟨m - 1, h', l', updN F (m - 1) (48 + d), int_eq (by omega), by omega, rfl, rfl, T.out.1, T.out.2.1, T.out.2.2.1, ArrB.set HF3.out _ _ _ (by omega), T.out.2.2.2, (HBel.out.trans (HL3.out.mono (by omega))).setCell (by simp) _⟩
        case measure => simp [intOf]; omega
      · have hRp : 0 < R := by rcases hgo with h | h; omega; exact h
        by_cases hp : 0 < h
        · have hpt : decide (0 < h) = true := decide_eq_true hp
          clear hgo hRp g2
          go_wp2_with (go_at_call 72; (with_reducible refine (HK.out _).mono ?_); rintro e w3 ⟨rfl, l3⟩; have HF3 := Lib.hid (World.rowIs.of_block HF.out (l3.block _ HF.out.lt)); have hfz3 := HF3.out.frozen (m - 1); have hc3 := HF3.out.cell (i := m - 1) (by omega); have HL3 := Lib.hid l3; clear l3)
          go_wp2
          go_roundw
          case rel => exact ⟨m - 1, h', l', updN F (m - 1) (48 + d), int_eq (by omega), by omega, rfl, rfl, T.out.1, T.out.2.1, T.out.2.2.1, ArrB.set HF3.out _ _ _ (by omega), T.out.2.2.2, (HBel.out.trans (HL3.out.mono (by omega))).setCell (by simp) _⟩
          case measure => simp [intOf]; omega
        · have hz : h = 0 := by have := HH.out.1; omega
          have hlp : 0 < l := by have := HH.out; omega
          have hpt : decide (0 < l) = true := decide_eq_true hlp
          clear hgo hRp g2
          subst hz
          go_wp2_with (go_at_call 72; (with_reducible refine (HK.out _).mono ?_); rintro e w3 ⟨rfl, l3⟩; have HF3 := Lib.hid (World.rowIs.of_block HF.out (l3.block _ HF.out.lt)); have hfz3 := HF3.out.frozen (m - 1); have hc3 := HF3.out.cell (i := m - 1) (by omega); have HL3 := Lib.hid l3; clear l3)
          go_wp2
          go_roundw
          case rel => exact ⟨m - 1, h', l', updN F (m - 1) (48 + d), int_eq (by omega), by omega, rfl, rfl, T.out.1, T.out.2.1, T.out.2.2.1, ArrB.set HF3.out _ _ _ (by omega), T.out.2.2.2, (HBel.out.trans (HL3.out.mono (by omega))).setCell (by simp) _⟩
          case measure => simp [intOf]; omega
    · have hR0 : R = 0 := by omega
      rcases hg with ⟨g1, _⟩ | ⟨g1, rfl, g2⟩
      · exact absurd (.inl g1) hgo
      have hz : h = 0 := by rw [hh, hR0]; rfl
      have hlz : l = 0 := by rw [hl, hR0]; rfl
      have hm0 := HR.out.symm.trans hR0
      obtain ⟨m1, m2, m3⟩ := txt_end HB.out g1 hm0 g2 HFig.out
      subst hz hlz
      have HM := Lib.hid m3
      have HM2 := Lib.hid m2
      have mI : (m : Int) ≤ 40 := by omega
      have mI1 : 1 ≤ (m : Int) := by omega
      have hfz := HF.out.frozen (m - 1)
      have hc3 := HF.out.cell (i := m - 1) (by omega)
      clear hh hl hR hR0 hgo g2 hm0 m3 m2 hNb hRb
      by_cases hs : hiW x < 0
      · have HT : Hid (textL x = 45 :: Lib.decDigits N) := Lib.hid (by rw [textL_neg ((hi_sign x).2 hs), HN.out])
        obtain ⟨n, rfl⟩ : ∃ n, m = n + 1 := ⟨m - 1, by omega⟩
        rw [show n + 1 - 1 = n by omega] at hfz hc3
        obtain ⟨W, hW⟩ : ∃ W, W = wr.setCell ⟨w.heap.size + 1, n, none⟩ (.int .u8 45) := ⟨_, rfl⟩
        have hA : ArrB W (w.heap.size + 1) (updN F n 45) := by rw [hW]; exact ArrB.set HF.out _ 45 _ rfl
        have hcv := conv_any (40 - n) (arr_bytes (m := n) hA (by omega) (fun i hi => by
          unfold updN
          split
          · omega
          · have := HM2.out (i - 1) (by omega)
            rw [show n + 1 + (i - 1) = n + i by omega] at this
            exact this))
        rw [strF_mk _ _ (45 :: Lib.decDigits N) (by
          rw [show 40 - n = (40 - (n + 1)) + 1 by omega, List.range_succ_eq_map, List.map_cons, List.map_map, ← HM.out]
          congr 1
          · unfold updN; rw [Nat.add_zero, if_pos rfl]; rfl
          · apply List.map_congr_left
            intro i hi
            show UInt8.ofNat (updN F n 45 (n + (i + 1))) = _
            unfold updN
            rw [if_neg (by omega), show n + (i + 1) = n + 1 + i by omega])] at hcv
        subst hW
        have nI : (n : Int) ≤ 40 := by omega
        have nN : n ≤ 40 := by omega
        clear hA mI mI1 m1
        go_wp2
        go_ret
        exact ⟨ret_str (by rw [HT.out]), (((Below.refl _ _).alloc (Nat.le_refl _) _).trans (HBel.out.mono (by omega))).setCell (by simp) _⟩
      · have HT : Hid (textL x = Lib.decDigits N) := Lib.hid (by rw [textL_pos (fun h => hs ((hi_sign x).1 h)), HN.out])
        have hcv := conv_any (40 - m) (arr_bytes HF.out hm HM2.out)
        rw [strF_mk _ _ _ HM.out] at hcv
        go_wp2
        go_ret
        exact ⟨ret_str (by rw [HT.out]), ((Below.refl _ _).alloc (Nat.le_refl _) _).trans (HBel.out.mono (by omega))⟩
end Go.Proofs.Ytdpgoddhchoefaa
