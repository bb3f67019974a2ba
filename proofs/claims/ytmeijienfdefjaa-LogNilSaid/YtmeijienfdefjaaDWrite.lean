/- The contract of Write. -/
import Derived.Test.YtmeijienfdefjaaDKeep
namespace Go.Proofs.Ytmeijienfdefjaa
open Go.RowKit

/-- What a call leaves of a disk: the state, where the loose writes lie now, what has turned. -/
def Left [Spare] (S' : DS) (base : Nat) (M : DM) (w w' : World) : Prop :=
  ∃ v', Dsk w' base { M with vl := v' } S' ∧ Turns base M w w' ∧ KeepB base w w' ∧ (v'.ownBlock = M.vl.ownBlock ∨ (∃ g, v'.ownBlock = some g ∧ w.heap.size ≤ g) ∨ v'.ownBlock = none)
theorem Left.refl [Spare] {w : World} {base : Nat} {M : DM} {S : DS} (h : Dsk w base M S) : Left S base M w w := ⟨M.vl, h, Turns.refl _ _ _, KeepB.refl _ _, .inl rfl⟩
theorem Turns.widen {base : Nat} {M : DM} {a b c : World} {v' : Value} (h : Turns base M a b) (k : Turns base { M with vl := v' } b c) (hv : v'.ownBlock = M.vl.ownBlock ∨ (∃ g, v'.ownBlock = some g ∧ a.heap.size ≤ g) ∨ v'.ownBlock = none) : Turns base M a c :=
  ⟨k.os.trans h.os, k.tape.trans h.tape, k.output.trans h.output, Nat.le_trans h.size k.size, fun i hi e1 e2 e3 e4 => (k.block i (Nat.lt_of_lt_of_le hi h.size) e1 e2 e3 (fun e => by
    rcases hv with q | ⟨g, q, hg⟩ | q
    · exact e4 (q ▸ e)
    · have e' : v'.ownBlock = some i := e
      rw [q] at e'
      injection e' with e'
      omega
    · have e' : v'.ownBlock = some i := e
      rw [q] at e'
      cases e')).trans (h.block i hi e1 e2 e3 e4)⟩
theorem Left.trans [Spare] {S2 : DS} {base : Nat} {M : DM} {a b c : World} {v' : Value} (hd : Turns base M a b) (hk : KeepB base a b) (hv : v'.ownBlock = M.vl.ownBlock ∨ (∃ g, v'.ownBlock = some g ∧ a.heap.size ≤ g) ∨ v'.ownBlock = none) (h2 : Left S2 base { M with vl := v' } b c) : Left S2 base M a c := by
  obtain ⟨v2, d2, t2, k2, o2⟩ := h2
  refine ⟨v2, d2, hd.widen t2 hv, hk.trans k2, ?_⟩
  rcases o2 with e | ⟨g, e, hg⟩ | e
  · have e' : v2.ownBlock = v'.ownBlock := e
    rw [e']; exact hv
  · exact .inr (.inl ⟨g, e, Nat.le_trans hd.size hg⟩)
  · exact .inr (.inr e)

theorem write_no [Spare] (at_ : Int) (v : Value) (w : World) (base : Nat) (M : DM) (S : DS) (h : Dsk w base M S) (hne : reachI S at_ ≠ 0) :
    Calls Try.prog 26 #[.pointer (some ⟨M.p, 0, none⟩), .int .i64 at_, v] w fun e w' => e = .returned (.int .i64 (reachI S at_)) ∧ w = w' := by
  have q : (reachI S at_ != 0) = true := by rw [bne_iff_ne]; exact hne
  clear hne
  go_enter Try.func26, Try.ntmps26
  go_wp2_with fail
  refine (reach_any at_ w base M S h).mono ?_
  rintro e w' ⟨rfl, rfl⟩
  go_wp2
  go_ret
  exact ⟨rfl, rfl⟩
theorem write_size [Spare] (at_ : Int) (A : Option Addr) (n c : Nat) (w : World) (base : Nat) (M : DM) (S : DS) (h : Dsk w base M S) (h0 : reachI S at_ = 0) (hn : n ≠ S.size) (_hm : n ≤ 9223372036854775807) :
    Calls Try.prog 26 #[.pointer (some ⟨M.p, 0, none⟩), .int .i64 at_, .slice A n c] w fun e w' => e = .returned (.int .i64 3) ∧ w = w' := by
  have R := Lib.hid h0
  have hc0 := h.c0
  have q : ((n : Int) != (S.size : Int)) = true := by rw [bne_iff_ne]; omega
  clear h0 hn
  go_enter Try.func26, Try.ntmps26
  go_wp2_with fail
  refine (reach_any at_ w base M S h).mono ?_
  rintro e w' ⟨rfl, rfl⟩
  rw [R.out]
  go_wp2
  go_ret
  exact ⟨rfl, rfl⟩
theorem write_ok [Spare] (k b o c : Nat) (F : Nat → Nat) (w : World) (base : Nat) (M : DM) (S : DS) (h : Dsk w base M S) (hbase : base ≤ w.heap.size) (hd : S.down = false) (hk : k < S.N) (hL : S.loose.length < 1000000) (hb : Bytes w (some ⟨b, o, none⟩) S.size F) :
    Calls Try.prog 26 #[.pointer (some ⟨M.p, 0, none⟩), .int .i64 k, .slice (some ⟨b, o, none⟩) S.size c] w fun e w' => e = .returned (.int .i64 (strikeI (keepS S k F))) ∧ Left (strikeS (keepS S k F)) base M w w' := by
  have R := Lib.hid (show reachI S k = 0 by unfold reachI; rw [if_neg (by rw [hd]; simp), if_neg (by omega)])
  have hc0 := h.c0
  have hS := h.hS
  have q : ((S.size : Int) != (S.size : Int)) = false := by simp
  clear hd
  go_enter Try.func26, Try.ntmps26
  go_wp2_with fail
  refine (reach_any k w base M S h).mono ?_
  rintro e w' ⟨rfl, rfl⟩
  rw [R.out]
  go_wp2_with fail
  refine (keep_any k b o c F w base M S h hbase hk hL hb).mono ?_
  rintro e w1 ⟨rfl, v1, d1, t1, k1, o1⟩
  have D1 := Lib.hid d1
  have T1 := Lib.hid t1
  have K1 := Lib.hid k1
  have O1 := Lib.hid o1
  clear d1 t1 k1 o1
  go_wp2_with fail
  refine (strike_any w1 base { M with vl := v1 } (keepS S k F) D1.out).mono ?_
  rintro e w2 ⟨rfl, d2, t2, k2⟩
  have LL : Left (strikeS (keepS S k F)) base M w w2 := Left.trans T1.out K1.out (O1.out.elim .inl fun q => .inr (.inl q)) ⟨v1, d2, t2, k2, .inl rfl⟩
  have HL := Lib.hid LL
  clear d2 t2 k2 LL
  go_wp2
  go_ret
  exact ⟨rfl, HL.out⟩
end Go.Proofs.Ytmeijienfdefjaa
