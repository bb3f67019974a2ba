/- The contract of settle: a write's first bytes are made fast. -/
import Derived.Test.YtmeijienfdefjaaDWrite
import Derived.Deep.RegionHeld3
namespace Go.Proofs.Ytmeijienfdefjaa
open Go.RowKit

theorem BRow.secV [Spare] {w : World} {base g n : Nat} {F : Nat → Nat} (h : BRow w g n F) (hb : base ≤ g) (hE : Spare.ok g) : SecV w base n (.slice (some ⟨g, 0, none⟩) n n) F := by
  obtain ⟨⟨c, h1, _, h3⟩, h4, h5⟩ := h
  exact ⟨h4, .inr ⟨g, n, c, rfl, Nat.le_refl _, h5, ⟨hb, hE⟩, h1, h3⟩⟩
def settleS (S : DS) (k done : Nat) (F : Nat → Nat) : DS := { S with fast := upd S.fast k (copyF (S.fast k) 0 done F) }
def SettlePost [Spare] (S' : DS) (base : Nat) (M : DM) (w : World) (e : Ending) (w' : World) : Prop := e = .returned (.tuple #[]) ∧ Dsk w' base M S' ∧ Turns base M w w' ∧ KeepB base w w'

set_option maxHeartbeats 1000000 in
theorem settle_any [Spare] (k done b o c : Nat) (F : Nat → Nat) (w : World) (base : Nat) (M : DM) (S : DS) (h : Dsk w base M S) (hbase : base ≤ w.heap.size) (hk : k < S.N) (hd : done ≤ S.size) (hb : Bytes w (some ⟨b, o, none⟩) S.size F) (hc : S.size ≤ c) :
    Calls Try.prog 55 #[.pointer (some ⟨M.p, 0, none⟩), .agg #[.int .i64 k, .slice (some ⟨b, o, none⟩) S.size c], .int .i64 done] w (SettlePost (settleS S k done F) base M w) := by
  have hN := h.hN
  have hS := h.hS
  obtain ⟨W, hW⟩ : ∃ W, W = w.alloc (.cells #[.int .i64 (k : Int), .slice (some ⟨b, o, none⟩) S.size c] 111) := ⟨_, rfl⟩
  have lW : Below w.heap.size w W := by rw [hW]; exact (Below.refl _ _).alloc (Nat.le_refl _) _
  have sW : W.heap.size = w.heap.size + 1 := by rw [hW]; simp
  have x0 : W.cell? ⟨w.heap.size, 0, none⟩ = some (.int .i64 (k : Int)) := by rw [hW]; simp
  have x1 : W.cell? ⟨w.heap.size, 1, none⟩ = some (.slice (some ⟨b, o, none⟩) S.size c) := by rw [hW]; simp
  have D := h.below lW
  have hc1 := D.c1
  obtain ⟨V, v1, v2⟩ := D.vf
  have hvk := v1.cell hk
  have sk := Lib.hid (v2 k hk)
  have hbW := Lib.hid (hb.below lW (Nat.le_refl _))
  have D0 := Lib.hid D
  have LW := Lib.hid lW
  have ltp : M.p < W.heap.size := (Array.getElem?_eq_some_iff.1 D.hp).1
  have ltf : M.bf < W.heap.size := v1.lt
  clear D v1 v2 lW hb
  go_enter Try.func55, Try.ntmps55
  go_wp2
  rw [← hW]
  have HW := Lib.hid hW
  clear hW
  go_region_held3 (fun w' => w'.cell? ⟨M.p, 1, none⟩ = some (.slice (some ⟨M.bf, 0, none⟩) S.N S.N) ∧ w'.cell? ⟨w.heap.size, 0, none⟩ = some (.int .i64 (k : Int)) ∧ w'.cell? ⟨M.bf, k, none⟩ = some (V k))
    (first | exact ⟨hc1, x0, hvk⟩ | exact ⟨(l1.cell (p := ⟨M.p, 1, none⟩) (by simp; omega)).trans hc1, (l1.cell (p := ⟨w.heap.size, 0, none⟩) (by simp; omega)).trans x0, (l1.cell (p := ⟨M.bf, k, none⟩) (by simp; omega)).trans hvk⟩ | go_keep)
    (first | (go_at_call 42; refine (whole_any (V k) (S.fast k) _ base M S (D0.out.below (below_drewN (Below.refl _ _) _)) (sk.out.keep (keepB_below (below_drewN (Below.refl _ _) _)))).mono ?_; rintro e w1 ⟨rfl, r1, l1⟩))
  have l1' : Below W.heap.size W w1 := ⟨l1.os, l1.tape, l1.output, l1.size, l1.block⟩
  have r1' : BRow w1 (w.heap.size + 1) S.size (S.fast k) := by rw [← sW]; exact r1
  have x1' : w1.cell? ⟨w.heap.size, 1, none⟩ = some (.slice (some ⟨b, o, none⟩) S.size c) := (l1'.cell (p := ⟨w.heap.size, 1, none⟩) (by simp; omega)).trans x1
  have hb1 := Lib.hid ((hbW.out.below l1' (Nat.le_refl _)).head done hd)
  have R1 := Lib.hid r1'
  have L1 := Lib.hid l1'
  clear l1 r1 l1' r1' x1 hc1 hvk
  go_wp2_with (with_reducible refine wpList_copy_bytes rfl (.tmp 18) (.tmp 22) 42 42 rfl Try.underlying42 u8size _ _ _ _ _ _ rfl rfl (w.heap.size + 1) 0 S.size done _ _ R1.out hb1.out ?e1 ?e2 ?e3 ?e4)
  case e1 => exact (Nat.min_eq_left hd).symm
  case e3 => omega
  case e4 =>
    intro w2 r2 g2
    have l2 : Below W.heap.size W w2 := L1.out.grown g2 L1.out.size (by rintro j ⟨⟩; omega)
    have D2 := D0.out.below l2
    have y0 := (l2.cell (p := ⟨w.heap.size, 0, none⟩) (by simp; omega)).trans x0
    have yc1 := D2.c1
    obtain ⟨V2, u1, _⟩ := D2.vf
    have yk := u1.cell hk
    have yf := u1.frozen k
    obtain ⟨D3, k3⟩ := D2.setFast (k := k) (r2.secV (base := base) (by omega) (h.hE _ (by omega)))
    have t3 : Turns base M w (w2.setCell ⟨M.bf, k, none⟩ (.slice (some ⟨w.heap.size + 1, 0, none⟩) S.size S.size)) :=
      (Turns.of_below LW.out).trans ((Turns.of_below l2).trans ⟨rfl, rfl, rfl, by simp [World.setCell], fun j _ _ hj _ _ => Below.heap_setCell w2 ⟨M.bf, k, none⟩ _ j hj⟩)
    have kk := (keepB_below (base := base) LW.out).trans ((keepB_below (base := base) l2).trans k3)
    have DD := Lib.hid D3
    have TT := Lib.hid t3
    have KK := Lib.hid kk
    clear D3 t3 kk k3 D2 u1 l2 g2 r2 R1 hb1 x0 x1'
    go_wp2
    go_region
    all_goals
      go_end0
      exact ⟨rfl, DD.out.keep rfl rfl rfl (fun _ _ => rfl) (fun _ _ _ hg => hg) (Nat.le_refl _), ⟨TT.out.os, TT.out.tape, TT.out.output, TT.out.size, TT.out.block⟩, KK.out⟩
  all_goals exact fun _ => rfl
end Go.Proofs.Ytmeijienfdefjaa
