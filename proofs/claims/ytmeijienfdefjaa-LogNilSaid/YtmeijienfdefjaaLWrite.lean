/- log's write: groups into slots. -/
import Derived.Test.YtmeijienfdefjaaLRefuse
import Derived.Test.YtmeijienfdefjaaDDid
import Derived.Test.YtmeijienfdefjaaLLoad
import Derived.Test.YtmeijienfdefjaaFBuild
namespace Go.Proofs.Ytmeijienfdefjaa
open Go.RowKit
set_option linter.unusedVariables false

/-- A block that is none of the disk's own. -/
def AwB (M : DM) (k : Nat) : Prop := k ≠ M.p ∧ k ≠ M.bf ∧ k ≠ M.bn ∧ M.vl.ownBlock ≠ some k
structure ChOk (w : World) (M : DM) (x : ChD) : Prop where
  by_ : Bytes w x.A x.m x.F
  mc : x.m ≤ x.c
  cc : x.c ≤ 9223372036854775807
  nil_ : x.A = none → x.c = 0
  aw : ∀ b o, x.A = some ⟨b, o, none⟩ → AwB M b
theorem ChOk.turns {w w' : World} {M : DM} {x : ChD} {base : Nat} (h : ChOk w M x) (t : Turns base M w w') : Bytes w' x.A x.m x.F :=
  h.by_.keep fun b o e hn => by
    obtain ⟨a1, a2, a3, a4⟩ := h.aw b o e
    exact t.block b (h.by_.blk b o e hn) a1 a2 a3 a4
/-- A group in memory, apart from the disk. -/
structure Grp (w : World) (M : DM) (bb o n : Nat) (X : Nat → ChD) : Prop where
  lt : n ≤ 1048576
  ok : ∀ i, i < n → ChOk w M (X i)
  aw : AwB M bb
  at_ : ∀ i, i < n → ChAt w bb (o + i * 2) (X i)
theorem Turns.cell_at {w w' : World} {M : DM} {base k i : Nat} {v : Value} (t : Turns base M w w') (a : AwB M k) (h : w.cell? ⟨k, i, none⟩ = some v) : w'.cell? ⟨k, i, none⟩ = some v :=
  (World.cell?_of_block (w := w) (a := ⟨k, i, none⟩) (t.block k (cell_lt' h) a.1 a.2.1 a.2.2.1 a.2.2.2)).trans h
theorem Grp.turns {w w' : World} {M : DM} {base bb o n : Nat} {X : Nat → ChD} (h : Grp w M bb o n X) (t : Turns base M w w') (i : Nat) (hi : i < n) : ChAt w' bb (o + i * 2) (X i) :=
  ⟨t.cell_at h.aw (h.at_ i hi).c0, t.cell_at h.aw (h.at_ i hi).c1⟩
/-- The sector of a group's change. -/
def logSec (sz ep nx n : Nat) (X : Nat → ChD) (k : Nat) : Nat → Nat := secF (sz - 20) (mkN ep (nx + k)) (9 + (X k).m) (loadF (X k).page.toNat (decide (k + 1 = n)) (X k).F)
/-- What is written, k sectors far; what is told of the k-th. -/
def wrS (at0 sz : Nat) (sec : Nat → Nat → Nat) (S : DS) : Nat → DS
  | 0 => S
  | k + 1 => putS (wrS at0 sz sec S k) ((at0 + k : Nat) : Int) sz (sec k)
def wrI (at0 sz : Nat) (sec : Nat → Nat → Nat) (S : DS) (k : Nat) : Int := putI (wrS at0 sz sec S k) ((at0 + k : Nat) : Int) sz (sec k)
theorem putS_len (S : DS) (a : Int) (n : Nat) (F : Nat → Nat) : (putS S a n F).loose.length ≤ S.loose.length + 1 := by
  unfold putS
  split
  · omega
  · rw [strikeS_loose]; simp [keepS]
theorem putS_sz (S : DS) (a : Int) (n : Nat) (F : Nat → Nat) : (putS S a n F).size = S.size := by
  unfold putS
  split
  · rfl
  · rw [strikeS_size]; rfl
theorem wrS_len (at0 sz : Nat) (sec : Nat → Nat → Nat) (S : DS) : ∀ k, (wrS at0 sz sec S k).loose.length ≤ S.loose.length + k
  | 0 => Nat.le_refl _
  | k + 1 => by
    have := wrS_len at0 sz sec S k
    have := putS_len (wrS at0 sz sec S k) ((at0 + k : Nat) : Int) sz (sec k)
    show (putS _ _ _ _).loose.length ≤ _
    omega
theorem wrS_sz (at0 sz : Nat) (sec : Nat → Nat → Nat) (S : DS) : ∀ k, (wrS at0 sz sec S k).size = S.size
  | 0 => rfl
  | k + 1 => (putS_sz _ _ _ _).trans (wrS_sz at0 sz sec S k)
/-- What write tells and leaves. -/
def WrP [Spare] (at0 sz n : Nat) (sec : Nat → Nat → Nat) (base : Nat) (M : DM) (S : DS) (w : World) (e : Ending) (w' : World) : Prop :=
  (∃ k, k < n ∧ (∀ j, j < k → wrI at0 sz sec S j = 0) ∧ wrI at0 sz sec S k ≠ 0 ∧ e = .returned (.int .i64 (wrI at0 sz sec S k)) ∧ Left (wrS at0 sz sec S (k + 1)) base M w w') ∨
    (∀ j, j < n → wrI at0 sz sec S j = 0) ∧ e = .returned (.int .i64 (flushI (wrS at0 sz sec S n))) ∧ Left (flushD (wrS at0 sz sec S n)) base M w w'
set_option maxHeartbeats 4000000 in
set_option maxRecDepth 100000 in
theorem lwrite_any [Spare] (b f cn ep nx : Nat) (dead : Bool) (bb o n c : Nat) (X : Nat → ChD) (w : World) (base : Nat) (M : DM) (S : DS) (h : Dsk w base M S) (hbase : base ≤ w.heap.size) (hL : S.loose.length + n < 1000000)
    (hl : w.heap[b]? = some (.cells (lgCells M.p f cn ep nx dead) 85 (0, 0))) (hab : AwB M b) (hf : f ≤ 1048576) (hnx : nx + n ≤ 1048576) (he1 : 1 ≤ ep) (he2 : ep ≤ 1099511627776) (hG : Grp w M bb o n X) (hm : ∀ i, i < n → (X i).m + 45 = S.size) (hp : ∀ i, i < n → pageB (X i)) :
    Calls Try.prog 40 #[.pointer (some ⟨b, 0, none⟩), .slice (some ⟨bb, o, none⟩) n c] w (WrP (f + nx) S.size n (logSec S.size ep nx n X) base M S w) := by
  have hS := h.hS
  obtain ⟨sec, hsec⟩ : ∃ sec, sec = logSec S.size ep nx n X := ⟨_, rfl⟩
  rw [← hsec]
  have HSec := Lib.hid hsec
  have q0 : w.cell? ⟨b, 0, none⟩ = some (.pointer (some ⟨M.p, 0, none⟩)) := by simp [World.cell?, hl, lgCells]
  have q1 : w.cell? ⟨b, 1, none⟩ = some (.int .i64 (f : Int)) := by simp [World.cell?, hl, lgCells]
  have q3 : w.cell? ⟨b, 3, none⟩ = some (.int .i64 (ep : Int)) := by simp [World.cell?, hl, lgCells]
  have q4 : w.cell? ⟨b, 4, none⟩ = some (.int .i64 (nx : Int)) := by simp [World.cell?, hl, lgCells]
  have KC := Lib.hid (show ∀ W, Turns base M w W → W.cell? ⟨b, 0, none⟩ = some (.pointer (some ⟨M.p, 0, none⟩)) ∧ W.cell? ⟨b, 1, none⟩ = some (.int .i64 (f : Int)) ∧ W.cell? ⟨b, 3, none⟩ = some (.int .i64 (ep : Int)) ∧ W.cell? ⟨b, 4, none⟩ = some (.int .i64 (nx : Int)) from fun W t => ⟨t.cell_at hab q0, t.cell_at hab q1, t.cell_at hab q3, t.cell_at hab q4⟩)
  have HH := Lib.hid h
  have HG := Lib.hid hG
  have HM := Lib.hid hm
  have HP := Lib.hid hp
  have hn := hG.lt
  clear h hl q0 q1 q3 q4 hG hm hp hsec
  go_enter Try.func40, Try.ntmps40
  go_wp2
  go_loopw [14] (fun i wr => ∃ k : Nat, i = .int .i64 k ∧ k ≤ n ∧ (∀ j, j < k → wrI (f + nx) S.size sec S j = 0) ∧ Left (wrS (f + nx) S.size sec S k) base M w wr) (fun i _ => n - (intOf i).toNat)
  case atStart => exact ⟨0, rfl, by omega, fun j hj => by omega, Left.refl HH.out⟩
  case round =>
    obtain ⟨k, rfl, hk, ha, hB⟩ := hrel
    obtain ⟨wo, hwo⟩ : ∃ wo, wo = wr := ⟨_, rfl⟩
    subst hwo
    obtain ⟨v', d, t, kb, ow⟩ := hB
    have D := Lib.hid d
    have T := Lib.hid t
    have KB := Lib.hid kb
    have OW := Lib.hid ow
    have HA := Lib.hid ha
    clear d t kb ow ha
    by_cases hlt : k < n
    · obtain ⟨d0, d1⟩ := HG.out.turns T.out k hlt
      have hOK := HG.out.ok k hlt
      have hBy := hOK.turns T.out
      have hM := HM.out k hlt
      have hPg := HP.out k hlt
      obtain ⟨x, hx⟩ : ∃ x, x = X k := ⟨_, rfl⟩
      rw [← hx] at d0 d1 hOK hBy hM hPg
      have hkI : (k : Int) < n := by omega
      have HXK := Lib.hid hx
      obtain ⟨pg, hpg⟩ : ∃ pg : Nat, pg = x.page.toNat := ⟨_, rfl⟩
      have hpe : x.page = (pg : Int) := by have := hPg.1; omega
      have hpl : pg ≤ 2147483647 := by have := hPg.2; omega
      rw [hpe] at d0
      obtain ⟨xp, xA, xm, xc, xF⟩ := x
      dsimp only at d0 d1 hM hBy hpe hpg
      subst hpe
      have TA := Lib.hid (show Turns base M w (wo.alloc (.cells #[.int .i64 (pg : Int), .slice xA xm xc] 44)) from T.out.trans (Turns.of_below ((Below.refl _ _).alloc (Nat.le_refl _) _)))
      obtain ⟨g0, g1, g3, g4⟩ := KC.out _ TA.out
      clear hx
      have HO := Lib.hid hOK
      have HY := Lib.hid hBy
      have HN := Lib.hid hpg
      clear hOK hBy hPg hpg
      go_wp2_with fail
      have hlast : ((k : Int) == (n : Int) - 1) = decide (k + 1 = n) := by
        rcases Nat.lt_or_ge (k + 1) n with q | q
        · rw [decide_eq_false (by omega)]; simp; omega
        · rw [decide_eq_true (by omega)]; simp; omega
      rw [hlast]
      refine (loadOf_any pg _ xA xm xc xF _ (by omega) (HY.out.below ((Below.refl _ _).alloc (Nat.le_refl _) _) (Nat.le_refl _)) HO.out.mc HO.out.cc HO.out.nil_ (by omega)).mono ?_
      rintro e w3 ⟨A', c', rfl, o3, l3⟩
      have L3 := Lib.hid (((Below.refl wo.heap.size wo).alloc (Nat.le_refl _) (.cells #[.int .i64 (pg : Int), .slice xA xm xc] 44)).trans (l3.mono (by simp)))
      have O3 := Lib.hid o3.bytes
      have KS := Lib.hid (show ∀ W, Below w3.heap.size w3 W → Calls Try.prog 50 #[.pointer (some ⟨M.p, 0, none⟩)] W fun e w' => e = .returned (.int .i64 (S.size : Int)) ∧ W = w' from fun W l => by
        have q := size_any W base { M with vl := v' } _ (D.out.below (L3.out.trans (l.mono L3.out.size)))
        rw [wrS_sz] at q
        exact q)
      have T3 := Lib.hid (T.out.trans (Turns.of_below (base := base) (M := M) L3.out))
      clear l3 o3 g0 g1 g3 g4 hlast
      obtain ⟨g0, g1, g3, g4⟩ := KC.out _ T3.out
      have hm45 : xm + 45 = S.size := hM
      have hmk : ((nx : Int) + (k : Int)) = ((nx + k : Nat) : Int) := by omega
      have KM := Lib.hid (show ∀ W, Calls Try.prog 62 #[.int .i64 (ep : Int), .int .i64 ((nx : Int) + (k : Int))] W fun e w' => e = .returned (.int .i64 ((mkN ep (nx + k) : Nat) : Int)) ∧ W = w' from fun W => by rw [hmk]; exact markOf_any ep (nx + k) W he2 (by omega))
      have KB6 := Lib.hid (show ∀ W, Below w3.heap.size w3 W → Calls Try.prog 61 #[.int .i64 (S.size : Int), .int .i64 ((mkN ep (nx + k) : Nat) : Int), .slice A' (9 + xm) c'] W fun e w' => e = .returned (.tuple #[.slice (some ⟨W.heap.size, 0, none⟩) S.size S.size, .int .i64 0]) ∧ BRow w' W.heap.size S.size (secF (S.size - 20) (mkN ep (nx + k)) (9 + xm) (loadF pg (decide (k + 1 = n)) xF)) ∧ Below W.heap.size W w' from fun W l => build_ok S.size (S.size - 20) (mkN ep (nx + k)) (9 + xm) c' A' _ W (by omega) (by omega) (by omega) (by omega) (by unfold mkN; omega) (by unfold mkN; omega) (by omega) (O3.out.below l (Nat.le_refl _)))
      have hb3 : b < w3.heap.size := cell_lt' g0
      clear hmk
      go_wp2_with fail
      go_region_held_law (fun W => W.cell? ⟨b, 0, none⟩ = some (.pointer (some ⟨M.p, 0, none⟩)) ∧ W.cell? ⟨b, 3, none⟩ = some (.int .i64 (ep : Int)))
        (first | exact ⟨p0, p3⟩ | exact ⟨g0, g3⟩ | go_keep)
        (first
          | (go_at_call 50; refine (KS.out _ (by first | exact Below.refl _ _ | exact (Below.refl _ _).drew)).mono ?_; rintro e W5 ⟨rfl, rfl⟩)
          | (go_at_call 62; refine (KM.out _).mono ?_; rintro e W5 ⟨rfl, rfl⟩)
          | (go_at_call 61; refine (KB6.out _ (by first | exact Below.refl _ _ | exact (Below.refl _ _).drew)).mono ?_; rintro e W6 ⟨rfl, r6, l6⟩; have p0 := (l6.cell (p := ⟨b, 0, none⟩) hb3).trans g0; have p3 := (l6.cell (p := ⟨b, 3, none⟩) hb3).trans g3))
      have L6 := Lib.hid (L3.out.trans (Below.mono (show Below w3.heap.size w3 W6 from by first | exact l6 | exact (Below.refl _ _).drew.trans l6) L3.out.size))
      have R6 := Lib.hid (show BRow W6 w3.heap.size S.size (secF (S.size - 20) (mkN ep (nx + k)) (9 + xm) (loadF pg (decide (k + 1 = n)) xF)) from r6)
      clear l6 r6 p0 p3 g0 g1 g3 g4
      have hsk : sec k = secF (S.size - 20) (mkN ep (nx + k)) (9 + xm) (loadF pg (decide (k + 1 = n)) xF) := by
        rw [HSec.out]; unfold logSec; rw [← HXK.out]; rfl
      have RB := Lib.hid (show Bytes W6 (some ⟨w3.heap.size, 0, none⟩) S.size (sec k) by rw [hsk]; exact (R6.out.bytes (by omega : 0 + S.size ≤ S.size)).congr fun i _ => by rw [Nat.zero_add])
      have KW := Lib.hid (show ∀ W, Below W6.heap.size W6 W → Calls Try.prog 26 #[.pointer (some ⟨M.p, 0, none⟩), .int .i64 (IntKind.i64.wrap ((f : Int) + ((nx : Int) + (k : Int)))), .slice (some ⟨w3.heap.size, 0, none⟩) S.size S.size] W fun e w' => e = .returned (.int .i64 (wrI (f + nx) S.size sec S k)) ∧ Left (wrS (f + nx) S.size sec S (k + 1)) base M w w' from fun W l => by
        rw [show IntKind.i64.wrap ((f : Int) + ((nx : Int) + (k : Int))) = ((f + nx + k : Nat) : Int) by rw [IntKind.wrap_i64]; omega]
        have lW := L6.out.trans (l.mono L6.out.size)
        refine (write_any _ _ _ _ _ (sec k) W base { M with vl := v' } _ (D.out.below lW) (Nat.le_trans hbase (Nat.le_trans T.out.size lW.size)) (by have := wrS_len (f + nx) S.size sec S k; omega) (RB.out.below l (Nat.le_refl _))).mono ?_
        rintro e w' ⟨he, hl⟩
        exact ⟨he, Left.trans T.out KB.out OW.out (Left.behind lW hl)⟩)
      clear hsk
      obtain ⟨I, hI⟩ : ∃ I, I = wrI (f + nx) S.size sec S k := ⟨_, rfl⟩
      rw [← hI] at KW
      have HI := Lib.hid hI
      obtain ⟨g0, g1, g3, g4⟩ := KC.out _ (T.out.trans (Turns.of_below (base := base) (M := M) L6.out))
      clear hI
      go_wp2_with fail
      go_region_held_law (fun W => W.cell? ⟨b, 0, none⟩ = some (.pointer (some ⟨M.p, 0, none⟩)) ∧ W.cell? ⟨b, 1, none⟩ = some (.int .i64 (f : Int)))
        (first | exact ⟨p0, p1⟩ | exact ⟨g0, g1⟩ | go_keep)
        (first
          | (go_at_call 26; with_reducible refine (KW.out _ (Below.refl _ _).drew).mono ?_; rintro e W8 ⟨rfl, l8⟩; obtain ⟨p0, p1, _, _⟩ := KC.out W8 l8.turns))
      have L8 := Lib.hid l8
      clear l8 p0 p1 g0 g1 g3 g4
      by_cases hz : I = 0
      · have hzb : (I != 0) = false := by simp [hz]
        have HZ := Lib.hid hz
        clear hz
        go_wp2
        go_roundw
        case rel => exact ⟨k + 1, by first | rfl | go_num, by omega, fun j hj => by
            rcases Nat.lt_or_ge j k with q | q
            · exact HA.out j q
            · obtain rfl : j = k := by omega
              rw [← HI.out]; exact HZ.out, L8.out⟩
        case measure => simp [intOf]; omega
      · have hzb : (I != 0) = true := by simpa using hz
        have HZ := Lib.hid hz
        clear hz
        go_wp2
        go_ret
        exact .inl ⟨k, hlt, HA.out, by rw [← HI.out]; exact HZ.out, by rw [← HI.out]; rfl, L8.out⟩
    · have hge : ¬ (k : Int) < n := by omega
      have e : k = n := by omega
      subst e
      obtain ⟨g0, _, _, _⟩ := KC.out _ T.out
      have KF := Lib.hid (flush_any wo base { M with vl := v' } _ D.out)
      go_wp2_with (go_at_call 52; refine KF.out.mono ?_; rintro e w' ⟨rfl, l⟩; have L := Lib.hid l; clear l)
      go_ret
      exact .inr ⟨HA.out, rfl, Left.trans T.out KB.out OW.out L.out⟩
end Go.Proofs.Ytmeijienfdefjaa
