/- The document's digits and Text: the walks. -/
import Derived.Test.YtdpgoddhchoefaaWRefSign
import Derived.Test.YtdpgoddhchoefaaWStr
import Derived.Test.YtdpgoddhchoefaaWTextM
import Derived.Lib.Bytealg
import Derived.BigQuiet
import Derived.Deep.QuietTactic
namespace Go.Proofs.Ytdpgoddhchoefaa
open Go.RowKit
set_option linter.unusedVariables false

theorem ten_cut (d : Nat) (h : d < 10) : (⟨#[48, 49, 50, 51, 52, 53, 54, 55, 56, 57]⟩ : ByteArray).extract d (d + 1) = ⟨#[UInt8.ofNat (48 + d)]⟩ := by
  have : ∀ d : Fin 10, ((⟨#[48, 49, 50, 51, 52, 53, 54, 55, 56, 57]⟩ : ByteArray).extract d.1 (d.1 + 1)).data.toList = [UInt8.ofNat (48 + d.1)] := by
    intro d
    rw [Lib.extract_data]
    revert d
    decide
  apply ByteArray.ext
  apply Array.toList_inj.1
  exact this ⟨d, h⟩
theorem size_mk' (l : List UInt8) : (⟨l.toArray⟩ : ByteArray).size = l.length := by simp [ByteArray.size]
theorem cons_mk (c : UInt8) (l : List UInt8) : (⟨#[c]⟩ : ByteArray) ++ ⟨l.toArray⟩ = ⟨(c :: l).toArray⟩ := by
  apply ByteArray.ext
  apply Array.toList_inj.1
  simp
theorem dec_step {m : Nat} (h : 10 ≤ m) (acc : List UInt8) : Lib.decDigits m ++ acc = Lib.decDigits (m / 10) ++ (UInt8.ofNat (48 + m % 10) :: acc) := by
  rw [Lib.decDigits, dif_neg (by omega), List.append_assoc]
  rfl
/-- One figure of base 65536 divided by ten, with what was left of the higher ones. -/
theorem ten_step (v : Int) (hv : 0 ≤ v) (n : Nat) : ∃ f r nn q s, rowF v n = f ∧ v / 65536 ^ (n + 1) % 10 = r ∧ 65536 * r + f = nn ∧ nn / 10 = q ∧ nn % 10 = s ∧ (0 ≤ f ∧ f < 65536 ∧ 0 ≤ r ∧ r ≤ 9 ∧ 0 ≤ nn ∧ nn < 655360 ∧ 0 ≤ q ∧ q < 65536 ∧ 0 ≤ s ∧ s ≤ 9) ∧
    q = rowF (v / 10) n ∧ s = v / 65536 ^ n % 10 ∧ ((0 < v / 65536 ^ n / 10) ↔ (0 < v / 65536 ^ (n + 1) / 10 ∨ q ≠ 0)) := by
  refine ⟨_, _, _, _, _, rfl, rfl, rfl, rfl, rfl, ?_⟩
  have h1 := div_step v n
  have hf := rowF_bd v n
  have hA : 0 ≤ v / 65536 ^ (n + 1) := Int.ediv_nonneg hv (Int.le_of_lt (pow_pos' _))
  have h2 : rowF (v / 10) n = v / 65536 ^ n / 10 % 65536 := by
    unfold rowF
    rw [Int.ediv_ediv_of_nonneg (by omega), Int.mul_comm, ← Int.ediv_ediv_of_nonneg (Int.le_of_lt (pow_pos' n))]
  rw [h2]
  generalize rowF v n = f at *
  generalize v / 65536 ^ (n + 1) = A at *
  generalize v / 65536 ^ n = B at *
  subst h1
  omega
def InnerR (v : Int) (m : Nat) (rest : Value) (more : Value) (F : Nat → Int) : Prop := rest = .int .i64 (v / 65536 ^ m % 10) ∧ more = .bool (decide (0 < v / 65536 ^ m / 10)) ∧ ∀ j, j < 8 → F j = if j < m then rowF v j else rowF (v / 10) j
def InnerI (v : Int) (i rest more : Value) (F : Nat → Int) : Prop := (∃ n : Nat, i = .int .i64 n ∧ n ≤ 7 ∧ InnerR v (n + 1) rest more F) ∨ (i = .int .i64 (-1) ∧ InnerR v 0 rest more F)
theorem inner_next {v : Int} {n : Nat} {rest more : Value} {F : Nat → Int} (h : InnerR v (n + 1) rest more F) (hn : n ≤ 7) {q s : Int} {b : Bool} (hq : q = rowF (v / 10) n) (hs : s = v / 65536 ^ n % 10) (hb : b = decide (0 < v / 65536 ^ n / 10)) : InnerR v n (.int .i64 s) (.bool b) (updI F n q) := by
  refine ⟨by rw [hs], by rw [hb], fun j hj => ?_⟩
  by_cases e : j = n
  · subst e; rw [upd_at, if_neg (by omega), hq]
  · rw [upd_off _ _ _ _ e, h.2.2 j hj]
    by_cases hl : j < n
    · rw [if_pos (by omega), if_pos hl]
    · rw [if_neg (by omega), if_neg hl]
set_option maxRecDepth 100000 in
set_option maxHeartbeats 8000000 in
theorem digits_any (x : Int) (N : Nat) (hN : N ≤ 170141183460469231731687303715884105728) (hx : ∀ i, i < 8 → rowF x i = rowF (N : Int) i) (w : World) : Calls Try.prog 73 #[.agg #[.int .i64 (rowF x 0), .int .i64 (rowF x 1), .int .i64 (rowF x 2), .int .i64 (rowF x 3), .int .i64 (rowF x 4), .int .i64 (rowF x 5), .int .i64 (rowF x 6), .int .i64 (rowF x 7)]] w fun e w' => e = .returned (.string ⟨(Lib.decDigits N).toArray⟩) ∧ Below w.heap.size w w' := by
  obtain ⟨b0, hb0⟩ : ∃ b0, b0 = w.alloc (.cells #[.int .i64 (rowF x 0), .int .i64 (rowF x 1), .int .i64 (rowF x 2), .int .i64 (rowF x 3), .int .i64 (rowF x 4), .int .i64 (rowF x 5), .int .i64 (rowF x 6), .int .i64 (rowF x 7)] 26) := ⟨_, rfl⟩
  have hA := arrI_box w 26 (rowF x)
  rw [← hb0] at hA
  have hl0 : Below w.heap.size w b0 := by rw [hb0]; exact (Below.refl _ _).alloc (Nat.le_refl _) _
  have H0 := Lib.hid (And.intro hb0 (And.intro hA (And.intro hl0 (And.intro hN hx))))
  clear hb0 hA hl0 hN hx
  go_enter Try.func73, Try.ntmps73
  go_wp2
  go_loopw [3, 4, 5, 6, 7] (fun o rest more i n wr => ∃ (M : Nat) (acc : List UInt8) (F : Nat → Int), o = .string ⟨acc.toArray⟩ ∧ acc.length ≤ 38 ∧ M ≤ 170141183460469231731687303715884105728 ∧ M < 10 ^ (39 - acc.length) ∧ Lib.decDigits N = Lib.decDigits M ++ acc ∧ (∀ j, j < 8 → F j = rowF (M : Int) j) ∧ ArrI wr 26 w.heap.size F ∧ Below w.heap.size w wr) (fun o _ _ _ _ _ => match o with | .string s => 40 - s.size | _ => 0)
  case atStart =>
    obtain ⟨hb0, hA, hl0, hN, hx⟩ := H0.out
    rw [← hb0]
    exact ⟨N, [], rowF x, rfl, by simp, hN, by have : (10 : Nat) ^ (39 - 0) = 1000000000000000000000000000000000000000 := (by decide); simp only [List.length_nil]; omega, by simp, hx, hA, hl0⟩
  case round =>
    obtain ⟨M, acc, F0, rfl, hal, hMb, hM, hd, hF0, hA0, hl0⟩ := hrel
    obtain ⟨wo, hwo⟩ : ∃ wo, wo = wr := ⟨_, rfl⟩
    subst hwo
    obtain ⟨v, hv⟩ : ∃ v : Int, v = M := ⟨_, rfl⟩
    rw [← hv] at hF0
    have hv0 : 0 ≤ v := by omega
    have hv8 : v / 65536 ^ 8 = 0 := by
      have hp : (65536 : Int) ^ 8 = 340282366920938463463374607431768211456 := by decide
      rw [hp]; omega
    have HO := Lib.hid (And.intro hal (And.intro hMb (And.intro hM (And.intro hd (And.intro hv (And.intro hF0 (And.intro hA0 (And.intro hl0 hv8))))))))
    clear hal hMb hM hd hv hF0 hA0 hl0 H0 hv8
    go_wp2_with fail
    go_loopw [4, 5, 6, 7] (fun rest more i n wr => ∃ F : Nat → Int, InnerI v i rest more F ∧ ArrI wr 26 w.heap.size F ∧ Below w.heap.size w wr) (fun _ _ i _ _ => (intOf i + 1).toNat)
    case atStart =>
      obtain ⟨hal, hMb, hM, hd, hv, hF0, hA0, hl0, hv8⟩ := HO.out
      exact ⟨F0, .inl ⟨7, rfl, by omega, by rw [hv8]; rfl, by rw [hv8]; rfl, fun j hj => by rw [if_pos (by omega)]; exact hF0 j hj⟩, hA0, hl0⟩
    case round =>
      obtain ⟨F, hin, hA, hl⟩ := hrel
      obtain ⟨wi, hwi⟩ : ∃ wi, wi = wr := ⟨_, rfl⟩
      subst hwi
      have HA := Lib.hid hA
      have HL := Lib.hid hl
      rcases hin with ⟨n, rfl, hn, hin⟩ | ⟨rfl, hin⟩
      · have HIN := Lib.hid hin
        obtain ⟨rfl, rfl, hF⟩ := hin
        obtain ⟨f, r, nn, q, s, e1, e2, e3, e4, e5, ⟨bf0, bf1, br0, br1, bn0, bn1, bq0, bq1, bs0, bs1⟩, e6, e7, e8⟩ := ten_step v hv0 n
        have hcf : wi.cell? ⟨w.heap.size, n, none⟩ = some (.int .i64 f) := by rw [← e1, ← (show F n = rowF v n by rw [hF n (by omega), if_pos (by omega)])]; exact World.rowIs.cell hA (by omega)
        have hz : wi.frozen? ⟨w.heap.size, n, none⟩ = false := World.rowIs.frozen hA _
        have w1 : IntKind.i64.wrap (nn.tdiv 10) = q := by rw [Int.tdiv_eq_ediv_of_nonneg bn0, e4]; exact IntWalk.i64_in _ (by omega)
        have w2 : nn.tmod 10 = s := by rw [Int.tmod_eq_emod_of_nonneg bn0, e5]
        have HN := Lib.hid (fun b hb => inner_next HIN.out hn e6 e7 (b := b) hb)
        have hnI : (n : Int) < 8 := by omega
        have hnI0 : (n : Int) ≤ 7 := by omega
        rw [e2]
        by_cases hb : 0 < v / 65536 ^ (n + 1) / 10
        · have eb : decide (0 < v / 65536 ^ (n + 1) / 10) = true := decide_eq_true hb
          have ec : decide (0 < v / 65536 ^ n / 10) = true := decide_eq_true (e8.2 (.inl hb))
          rw [eb]
          have HR := Lib.hid (HN.out true ec.symm)
          clear eb ec hb e6 e7 e8 hF hA hl e1 e2 HIN HN
          rcases Nat.eq_zero_or_pos n with h0 | h0
          · subst h0
            go_wp2
            go_roundw
            case rel => exact ⟨updI F 0 q, .inr ⟨rfl, HR.out⟩, ArrI.set HA.out 0 q _ rfl, HL.out.setCell (Nat.le_refl _) _⟩
            case measure => simp [intOf]
          · obtain ⟨m, rfl⟩ : ∃ m, n = m + 1 := ⟨n - 1, by omega⟩
            go_wp2
            go_roundw
            case rel => exact ⟨updI F (m + 1) q, .inl ⟨m, by first | rfl | go_num | exact int_eq' (by omega), by omega, HR.out⟩, ArrI.set HA.out (m + 1) q _ rfl, HL.out.setCell (Nat.le_refl _) _⟩
            case measure => simp [intOf]; omega
        · have eb : decide (0 < v / 65536 ^ (n + 1) / 10) = false := decide_eq_false hb
          rw [eb]
          by_cases hq : q = 0
          · have ec : decide (0 < v / 65536 ^ n / 10) = false := decide_eq_false (fun h => (e8.1 h).elim hb (fun h => h hq))
            have HR := Lib.hid (HN.out false ec.symm)
            subst hq
            clear eb ec hb e6 e7 e8 hF hA hl e1 e2 HIN HN
            rcases Nat.eq_zero_or_pos n with h0 | h0
            · subst h0
              go_wp2
              go_roundw
              case rel => exact ⟨updI F 0 0, .inr ⟨rfl, HR.out⟩, ArrI.set HA.out 0 0 _ rfl, HL.out.setCell (Nat.le_refl _) _⟩
              case measure => simp [intOf]
            · obtain ⟨m, rfl⟩ : ∃ m, n = m + 1 := ⟨n - 1, by omega⟩
              go_wp2
              go_roundw
              case rel => exact ⟨updI F (m + 1) 0, .inl ⟨m, by first | rfl | go_num | exact int_eq' (by omega), by omega, HR.out⟩, ArrI.set HA.out (m + 1) 0 _ rfl, HL.out.setCell (Nat.le_refl _) _⟩
              case measure => simp [intOf]; omega
          · have ec : decide (0 < v / 65536 ^ n / 10) = true := decide_eq_true (e8.2 (.inr hq))
            have HR := Lib.hid (HN.out true ec.symm)
            have hqt : (q != 0) = true := by simpa using hq
            clear eb ec hb e6 e7 e8 hF hA hl e1 e2 HIN HN hq
            rcases Nat.eq_zero_or_pos n with h0 | h0
            · subst h0
              go_wp2
              go_roundw
              case rel => exact ⟨updI F 0 q, .inr ⟨rfl, HR.out⟩, ArrI.set HA.out 0 q _ rfl, HL.out.setCell (Nat.le_refl _) _⟩
              case measure => simp [intOf]
            · obtain ⟨m, rfl⟩ : ∃ m, n = m + 1 := ⟨n - 1, by omega⟩
              go_wp2
              go_roundw
              case rel => exact ⟨updI F (m + 1) q, .inl ⟨m, by first | rfl | go_num | exact int_eq' (by omega), by omega, HR.out⟩, ArrI.set HA.out (m + 1) q _ rfl, HL.out.setCell (Nat.le_refl _) _⟩
              case measure => simp [intOf]; omega
      · obtain ⟨rfl, rfl, hF⟩ := hin
        obtain ⟨hal, hMb, hM, hd, hv, hF0, hA0, hl0, hv8⟩ := HO.out
        rw [Int.pow_zero, Int.ediv_one]
        obtain ⟨d, hde⟩ : ∃ d, d = M % 10 := ⟨_, rfl⟩
        have hd10 : d < 10 := by omega
        have e1 : v % 10 = (d : Int) := by omega
        rw [e1]
        have HF : Hid (∀ j, j < 8 → F j = rowF (((M / 10 : Nat) : Nat) : Int) j) := Lib.hid fun j hj => by
          rw [hF j hj, if_neg (by omega), show v / 10 = ((M / 10 : Nat) : Int) by omega]
        have HDE := Lib.hid hde
        have hx := ten_cut d hd10
        obtain ⟨X, hX⟩ : ∃ X : ByteArray, X = ⟨#[UInt8.ofNat (48 + d)]⟩ := ⟨_, rfl⟩
        rw [← hX] at hx
        have HX := Lib.hid hX
        have hXs : X.size = 1 := by rw [hX]; rfl
        have hlen2 : (⟨acc.toArray⟩ : ByteArray).size ≤ 40 := by rw [size_mk']; have := HO.out.1; omega
        obtain ⟨O, hO⟩ : ∃ O : ByteArray, O = ⟨acc.toArray⟩ := ⟨_, rfl⟩
        have hOs : O.size = acc.length := by rw [hO, size_mk']
        rw [← hO] at hlen2 ⊢
        have HOO := Lib.hid hO
        have HOS := Lib.hid hOs
        have d1 : (d : Int) ≤ 9 := by omega
        clear hX hO hOs
        by_cases hb : 10 ≤ M
        · have eb : decide (0 < v / 10) = true := decide_eq_true (by omega)
          rw [eb]
          have hal2 : acc.length + 1 ≤ 38 := by
            rcases Nat.lt_or_ge acc.length 38 with h | h
            · omega
            · have : acc.length = 38 := by omega
              rw [this] at hM
              simp at hM
              omega
          have hM2 : M / 10 < 10 ^ (39 - (acc.length + 1)) := by
            have : 39 - acc.length = 39 - (acc.length + 1) + 1 := by omega
            rw [this, Nat.pow_succ] at hM
            omega
          have HN := Lib.hid (And.intro hal2 (And.intro hM2 (And.intro (show M / 10 ≤ 170141183460469231731687303715884105728 by omega) (hd.trans (dec_step hb acc)))))
          have HM1 : Hid (40 - (acc.length + 1) < 40 - acc.length) := Lib.hid (by omega)
          clear hal hMb hM hd hv hF0 hA0 hl0 hv8 hF hA hl e1 hb eb hal2 hM2 hde
          go_wp2
          go_roundw
          case rel =>
            refine ⟨M / 10, UInt8.ofNat (48 + d) :: acc, F, ?_, by have := HN.out.1; rw [List.length_cons]; exact this, HN.out.2.2.1, by rw [List.length_cons]; exact HN.out.2.1, by rw [HDE.out]; exact HN.out.2.2.2, HF.out, HA.out, HL.out⟩
            rw [HX.out, HOO.out, cons_mk]
          case measure =>
            show 40 - (X ++ O).size < 40 - (⟨acc.toArray⟩ : ByteArray).size
            rw [ByteArray.size_append, hXs, HOS.out, size_mk']
            have := HM1.out
            omega
        · have eb : decide (0 < v / 10) = false := decide_eq_false (by omega)
          rw [eb]
          have HD : Hid (Lib.decDigits N = UInt8.ofNat (48 + d) :: acc) := Lib.hid (by
            rw [hd, Lib.decDigits_one (by omega), show M = d by omega]; rfl)
          clear hal hMb hM hd hv hF0 hA0 hl0 hv8 hF hA hl e1 hb eb hde
          go_wp2
          go_ret
          refine ⟨ret_str ?_, HL.out⟩
          rw [HX.out, HOO.out, cons_mk, HD.out]
theorem dlen_le : ∀ (k N : Nat), N < 10 ^ (k + 1) → (Lib.decDigits N).length ≤ k + 1
  | 0, N, h => by rw [dec_small (by simpa using h)]; simp
  | k + 1, N, h => by
    by_cases hs : N < 10
    · rw [dec_small hs]; simp
    · rw [dec_big (by omega), List.length_append]
      have := dlen_le k (N / 10) (by rw [Nat.pow_succ] at h; omega)
      simp only [List.length_cons, List.length_nil]
      omega
theorem app_one (l : List UInt8) : (⟨#[45]⟩ : ByteArray) ++ ⟨l.toArray⟩ = ⟨((45 : UInt8) :: l).toArray⟩ := cons_mk 45 l
set_option maxRecDepth 100000 in
set_option maxHeartbeats 2000000 in
theorem refText_any (x : Int) (w : World) : Calls Try.prog 26 #[.agg #[.int .i64 (rowF x 0), .int .i64 (rowF x 1), .int .i64 (rowF x 2), .int .i64 (rowF x 3), .int .i64 (rowF x 4), .int .i64 (rowF x 5), .int .i64 (rowF x 6), .int .i64 (rowF x 7)]] w fun e w' => e = .returned (.string ⟨(textL x).toArray⟩) ∧ Below w.heap.size w w' := by
  have K1 := Lib.hid (fun W => refSign_any x W)
  have hA := (arrI_box w 26 (rowF x))
  have HA := Lib.hid hA
  have hl : Below w.heap.size w (w.alloc (.cells #[.int .i64 (rowF x 0), .int .i64 (rowF x 1), .int .i64 (rowF x 2), .int .i64 (rowF x 3), .int .i64 (rowF x 4), .int .i64 (rowF x 5), .int .i64 (rowF x 6), .int .i64 (rowF x 7)] 26)) := (Below.refl _ _).alloc (Nat.le_refl _) _
  have HL := Lib.hid hl
  clear hA hl
  by_cases hs : svW x < 0
  · rw [sgn_neg hs] at K1
    have kl := fun W => refLess_any 0 x W
    rw [Int.zero_sub] at kl
    have e0 : ∀ i, i < 8 → rowF 0 i = 0 := fun i _ => by unfold rowF; simp
    rw [e0 0 (by omega), e0 1 (by omega), e0 2 (by omega), e0 3 (by omega), e0 4 (by omega), e0 5 (by omega), e0 6 (by omega), e0 7 (by omega)] at kl
    unfold rowV at kl
    have K2 := Lib.hid kl
    have K3 := Lib.hid (fun W => digits_any (-x) (szW x) (szW_bd x) (fun i hi => row_cong (by
      have h1 : ((szW x : Nat) : Int) = -svW x := by unfold szW; omega
      rw [h1]
      have := sv_cong x
      omega) i hi) W)
    have HT : Hid (textL x = 45 :: Lib.decDigits (szW x)) := Lib.hid (textL_neg hs)
    have hN : (⟨(Lib.decDigits (szW x)).toArray⟩ : ByteArray).size ≤ 1000 := by
      rw [size_mk']
      have := dlen_le 38 (szW x) (by have := szW_bd x; have : (10 : Nat) ^ (38 + 1) = 1000000000000000000000000000000000000000 := (by decide); omega)
      omega
    obtain ⟨O, hO⟩ : ∃ O : ByteArray, O = ⟨(Lib.decDigits (szW x)).toArray⟩ := ⟨_, rfl⟩
    rw [← hO] at hN K3
    have HO := Lib.hid hO
    clear kl e0 hs hO
    go_enter Try.func26, Try.ntmps26
    go_wp2_with (go_at_call 24; (with_reducible refine (K1.out _).mono ?_); rintro e w1 ⟨rfl, l1⟩; have HA1 := Lib.hid (ArrI.keep HA.out l1 (by simp)); have L1 := Lib.hid (HL.out.trans (l1.mono HL.out.size)); obtain ⟨c0, c1, c2, c3, c4, c5, c6, c7⟩ := HA1.out.cells (G := rowF x) (fun _ _ => rfl); clear l1)
    (with_reducible refine (K2.out _).mono ?_); rintro e w2 ⟨rfl, l2⟩; have L2 := Lib.hid (L1.out.trans (l2.mono L1.out.size)); clear l2
    go_wp2_with (go_at_call 73; (with_reducible refine (K3.out _).mono ?_); rintro e w3 ⟨rfl, l3⟩; have L3 := Lib.hid (L2.out.trans (l3.mono L2.out.size)); clear l3)
    go_wp2
    go_ret
    exact ⟨ret_str (by rw [HO.out, HT.out]; exact app_one _), L3.out⟩
  · obtain ⟨s, hs2⟩ : ∃ s, s = sgnI (svW x) := ⟨_, rfl⟩
    have hs0 : ¬ s < 0 := by rw [hs2]; unfold sgnI; rw [if_neg hs]; split <;> omega
    rw [← hs2] at K1
    have K3 := Lib.hid (fun W => digits_any x (szW x) (szW_bd x) (fun i hi => row_cong (by
      have h1 : ((szW x : Nat) : Int) = svW x := by unfold szW; omega
      rw [h1]
      have := sv_cong x
      omega) i hi) W)
    rw [← textL_pos hs] at K3
    clear hs hs2
    go_enter Try.func26, Try.ntmps26
    go_wp2_with (go_at_call 24; (with_reducible refine (K1.out _).mono ?_); rintro e w1 ⟨rfl, l1⟩; have HA1 := Lib.hid (ArrI.keep HA.out l1 (by simp)); have L1 := Lib.hid (HL.out.trans (l1.mono HL.out.size)); obtain ⟨c0, c1, c2, c3, c4, c5, c6, c7⟩ := HA1.out.cells (G := rowF x) (fun _ _ => rfl); clear l1)
    go_wp2_with (go_at_call 73; (with_reducible refine (K3.out _).mono ?_); rintro e w3 ⟨rfl, l3⟩; have L3 := Lib.hid (L1.out.trans (l3.mono L1.out.size)); clear l3)
    go_wp2
    go_ret
    exact ⟨rfl, L3.out⟩
end Go.Proofs.Ytdpgoddhchoefaa
