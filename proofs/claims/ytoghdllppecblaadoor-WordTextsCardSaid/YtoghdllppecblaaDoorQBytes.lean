/- the document's Bytes: a sign's. -/
import Derived.Test.YtoghdllppecblaaDoorQPiece
import Derived.Laws.BytesString
import Derived.Laws.Cells
import Derived.RangeFuncBox
namespace Go.Proofs.YtoghdllppecblaaDoor
open Go.RowKit
set_option linter.unusedVariables false
set_option linter.unusedSimpArgs false

theorem fold_push : ∀ (ns : List Int) (s : ByteArray), (ns.foldl (fun r n => r.push (UInt8.ofNat n.toNat)) s) = s ++ mkB (ns.map fun n => UInt8.ofNat n.toNat)
  | [], s => by
    apply ByteArray.ext
    simp [mkB, ByteArray.data_append]
  | n :: ns, s => by
    rw [List.foldl_cons, fold_push ns]
    apply ByteArray.ext
    simp [mkB, ByteArray.data_append]
/-- A new row of bytes as a string. -/
theorem conv_cells (w : World) (zs : List Int) (c : Nat) (T : TypeId) :
    (convert 52 9 (.slice (some ⟨w.heap.size, 0, none⟩) zs.length c)).run Tryd.prog (w.alloc (.cells (zs.map (Value.int .u8)).toArray T)) = .ok (.string (mkB (zs.map fun n => UInt8.ofNat n.toNat))) (w.alloc (.cells (zs.map (Value.int .u8)).toArray T)) := by
  have hl : (loadCells ⟨w.heap.size, 0, none⟩ zs.length).run Tryd.prog (w.alloc (.cells (zs.map (Value.int .u8)).toArray T)) = .ok (zs.map (Value.int .u8)).toArray (w.alloc (.cells (zs.map (Value.int .u8)).toArray T)) := by
    have := run_loadCells_list (P := Tryd.prog) (w.alloc (.cells (zs.map (Value.int .u8)).toArray T)) ⟨w.heap.size, 0, none⟩ (zs.map (Value.int .u8)) (fun j v hj => by
      have hadd : (⟨w.heap.size, 0, none⟩ : Addr).add j = ⟨w.heap.size, j, none⟩ := by unfold Addr.add; split <;> simp_all
      rw [hadd, cell_of_row _ _ _ _ _ _ (World.alloc_heap_new w (.cells (zs.map (Value.int .u8)).toArray T))]
      simpa using hj)
    rw [List.length_map] at this
    exact this
  rw [run_convert_bytes_string _ _ _ _ _ _ _ Tryd.underlying52 Tryd.underlying5 Tryd.underlying9, run_bytesToString _ _ _ _ zs hl, fold_push]
  congr 2
theorem u8_in {n : Nat} (h : n < 256) : IntKind.u8.wrap (n : Int) = (n : Int) := by rw [IntKind.wrap_u8]; omega
theorem w64s {n : Nat} (h : n < 1000000000) : wrap64 (n : Int) = (n : Int) := by unfold wrap64; omega
theorem i64n {n : Nat} (h : n < 1000000000) : IntKind.i64.wrap (n : Int) = (n : Int) := IntWalk.i64_in _ (by omega)
theorem addn {a b : Nat} (h : a + b < 1000000000) (x : Nat) (hx : x = a + b) : IntKind.i64.wrap ((a : Int) + (b : Int)) = (x : Int) := by rw [IntWalk.i64_in _ (by omega)]; omega
theorem quon {a b : Nat} (x : Nat) (hx : x = a / b) : Int.tdiv (a : Int) (b : Int) = (x : Int) := by rw [hx, Int.tdiv_eq_ediv_of_nonneg (by omega)]; omega
theorem remn {a b : Nat} (x : Nat) (hx : x = a % b) : Int.tmod (a : Int) (b : Int) = (x : Int) := by rw [hx, Int.tmod_eq_emod_of_nonneg (by omega)]; omega
set_option maxHeartbeats 2000000 in
theorem bytes_any (c : Nat) (hv : validB (c : Int) = true) (w : World) : Calls Tryd.prog 19 #[.int .i64 (c : Int)] w fun e w' => e = .returned (.string (mkB (encL c))) ∧ Below w.heap.size w w' := by
  have hb := valid_nat hv
  by_cases h1 : c < 128
  · have e := encL_1 hv (by simpa using h1)
    rw [Int.toNat_natCast] at e
    have hk := conv_cells w [(c : Int)] 1 5
    simp only [List.map_cons, List.map_nil, Int.toNat_natCast, List.length_cons, List.length_nil] at hk
    rw [← e] at hk
    have hI : (c : Int) < 128 := by omega
    have hu := u8_in (n := c) (by omega)
    have HL := Lib.hid (((Below.refl w.heap.size w).alloc (Nat.le_refl _) (.cells #[.int .u8 (c : Int)] 5)))
    clear hb h1 e hv
    go_enter Tryd.func19, Tryd.ntmps19
    go_wp2
    go_ret
    exact ⟨rfl, HL.out⟩
  · by_cases h2 : c < 2048
    · have e := encL_2 hv (by simpa using h1) (by simpa using h2)
      rw [Int.toNat_natCast] at e
      obtain ⟨q, hq⟩ : ∃ zz : Nat, zz = c / 64 := ⟨_, rfl⟩
      obtain ⟨r, hr⟩ : ∃ zz : Nat, zz = c % 64 := ⟨_, rfl⟩
      obtain ⟨x, hx⟩ : ∃ zz : Nat, zz = 192 + q := ⟨_, rfl⟩
      obtain ⟨y, hy⟩ : ∃ zz : Nat, zz = 128 + r := ⟨_, rfl⟩
      have g1 : ¬ (c : Int) < 128 := by omega
      have g2 : (c : Int) < 2048 := by omega
      have e2 : mkB (encL c) = mkB [UInt8.ofNat x, UInt8.ofNat y] := by rw [e, hx, hy, hr, hq]
      have hk := conv_cells w [(x : Int), (y : Int)] 2 5
      simp only [List.map_cons, List.map_nil, Int.toNat_natCast, List.length_cons, List.length_nil, Nat.zero_add, Nat.reduceAdd] at hk
      rw [← e2] at hk
      have ltq : q < 1000000000 := by omega
      have ltx : x < 256 := by omega
      have lty : y < 256 := by omega
      have f0 : Int.tdiv (c : Int) 64 = (q : Int) := quon (a := c) (b := 64) q hq
      have f1 : Int.tmod (c : Int) 64 = (r : Int) := remn (a := c) (b := 64) r hr
      have f2 : IntKind.i64.wrap (192 + (q : Int)) = (x : Int) := addn (a := 192) (b := q) (by rw [← hx]; exact Nat.lt_trans ltx (by decide)) x hx
      have f3 : IntKind.i64.wrap (128 + (r : Int)) = (y : Int) := addn (a := 128) (b := r) (by rw [← hy]; exact Nat.lt_trans lty (by decide)) y hy
      have vq := w64s ltq
      have wq := i64n ltq
      have ux := u8_in ltx
      have uy := u8_in lty
      have HL := Lib.hid (((Below.refl w.heap.size w).alloc (Nat.le_refl _) (.cells #[.int .u8 (x : Int), .int .u8 (y : Int)] 5)))
      clear hb e e2 hv h1 h2 hq hr hx hy
      go_enter Tryd.func19, Tryd.ntmps19
      go_wp2
      go_ret
      exact ⟨rfl, HL.out⟩
    · by_cases h3 : c < 65536
      · have e := encL_3 hv (by simpa using h2) (by simpa using h3)
        rw [Int.toNat_natCast] at e
        obtain ⟨q, hq⟩ : ∃ zz : Nat, zz = c / 4096 := ⟨_, rfl⟩
        obtain ⟨m, hm⟩ : ∃ zz : Nat, zz = c / 64 := ⟨_, rfl⟩
        obtain ⟨n, hn⟩ : ∃ zz : Nat, zz = m % 64 := ⟨_, rfl⟩
        obtain ⟨r, hr⟩ : ∃ zz : Nat, zz = c % 64 := ⟨_, rfl⟩
        obtain ⟨x, hx⟩ : ∃ zz : Nat, zz = 224 + q := ⟨_, rfl⟩
        obtain ⟨y, hy⟩ : ∃ zz : Nat, zz = 128 + n := ⟨_, rfl⟩
        obtain ⟨z, hz⟩ : ∃ zz : Nat, zz = 128 + r := ⟨_, rfl⟩
        have g1 : ¬ (c : Int) < 128 := by omega
        have g2 : ¬ (c : Int) < 2048 := by omega
        have g3 : (c : Int) < 65536 := by omega
        have e2 : mkB (encL c) = mkB [UInt8.ofNat x, UInt8.ofNat y, UInt8.ofNat z] := by rw [e, hx, hy, hz, hr, hn, hm, hq]
        have hk := conv_cells w [(x : Int), (y : Int), (z : Int)] 3 5
        simp only [List.map_cons, List.map_nil, Int.toNat_natCast, List.length_cons, List.length_nil, Nat.zero_add, Nat.reduceAdd] at hk
        rw [← e2] at hk
        have ltq : q < 1000000000 := by omega
        have ltm : m < 1000000000 := by omega
        have ltx : x < 256 := by omega
        have lty : y < 256 := by omega
        have ltz : z < 256 := by omega
        have f0 : Int.tdiv (c : Int) 4096 = (q : Int) := quon (a := c) (b := 4096) q hq
        have f1 : Int.tdiv (c : Int) 64 = (m : Int) := quon (a := c) (b := 64) m hm
        have f2 : Int.tmod (m : Int) 64 = (n : Int) := remn (a := m) (b := 64) n hn
        have f3 : Int.tmod (c : Int) 64 = (r : Int) := remn (a := c) (b := 64) r hr
        have f4 : IntKind.i64.wrap (224 + (q : Int)) = (x : Int) := addn (a := 224) (b := q) (by rw [← hx]; exact Nat.lt_trans ltx (by decide)) x hx
        have f5 : IntKind.i64.wrap (128 + (n : Int)) = (y : Int) := addn (a := 128) (b := n) (by rw [← hy]; exact Nat.lt_trans lty (by decide)) y hy
        have f6 : IntKind.i64.wrap (128 + (r : Int)) = (z : Int) := addn (a := 128) (b := r) (by rw [← hz]; exact Nat.lt_trans ltz (by decide)) z hz
        have vq := w64s ltq
        have wq := i64n ltq
        have vm := w64s ltm
        have wm := i64n ltm
        have ux := u8_in ltx
        have uy := u8_in lty
        have uz := u8_in ltz
        have HL := Lib.hid (((Below.refl w.heap.size w).alloc (Nat.le_refl _) (.cells #[.int .u8 (x : Int), .int .u8 (y : Int), .int .u8 (z : Int)] 5)))
        clear hb e e2 hv h1 h2 h3 hq hm hn hr hx hy hz
        go_enter Tryd.func19, Tryd.ntmps19
        go_wp2
        go_ret
        exact ⟨rfl, HL.out⟩
      · have e := encL_4 hv (by simpa using h3)
        rw [Int.toNat_natCast] at e
        obtain ⟨q, hq⟩ : ∃ zz : Nat, zz = c / 262144 := ⟨_, rfl⟩
        obtain ⟨l, hl⟩ : ∃ zz : Nat, zz = c / 4096 := ⟨_, rfl⟩
        obtain ⟨s, hs⟩ : ∃ zz : Nat, zz = l % 64 := ⟨_, rfl⟩
        obtain ⟨m, hm⟩ : ∃ zz : Nat, zz = c / 64 := ⟨_, rfl⟩
        obtain ⟨n, hn⟩ : ∃ zz : Nat, zz = m % 64 := ⟨_, rfl⟩
        obtain ⟨r, hr⟩ : ∃ zz : Nat, zz = c % 64 := ⟨_, rfl⟩
        obtain ⟨x, hx⟩ : ∃ zz : Nat, zz = 240 + q := ⟨_, rfl⟩
        obtain ⟨y, hy⟩ : ∃ zz : Nat, zz = 128 + s := ⟨_, rfl⟩
        obtain ⟨z, hz⟩ : ∃ zz : Nat, zz = 128 + n := ⟨_, rfl⟩
        obtain ⟨t, ht⟩ : ∃ zz : Nat, zz = 128 + r := ⟨_, rfl⟩
        have g1 : ¬ (c : Int) < 128 := by omega
        have g2 : ¬ (c : Int) < 2048 := by omega
        have g3 : ¬ (c : Int) < 65536 := by omega
        have e2 : mkB (encL c) = mkB [UInt8.ofNat x, UInt8.ofNat y, UInt8.ofNat z, UInt8.ofNat t] := by rw [e, hx, hy, hz, ht, hr, hn, hm, hs, hl, hq]
        have hk := conv_cells w [(x : Int), (y : Int), (z : Int), (t : Int)] 4 5
        simp only [List.map_cons, List.map_nil, Int.toNat_natCast, List.length_cons, List.length_nil, Nat.zero_add, Nat.reduceAdd] at hk
        rw [← e2] at hk
        have ltq : q < 1000000000 := by omega
        have ltl : l < 1000000000 := by omega
        have ltm : m < 1000000000 := by omega
        have ltx : x < 256 := by omega
        have lty : y < 256 := by omega
        have ltz : z < 256 := by omega
        have ltt : t < 256 := by omega
        have f0 : Int.tdiv (c : Int) 262144 = (q : Int) := quon (a := c) (b := 262144) q hq
        have f1 : Int.tdiv (c : Int) 4096 = (l : Int) := quon (a := c) (b := 4096) l hl
        have f2 : Int.tmod (l : Int) 64 = (s : Int) := remn (a := l) (b := 64) s hs
        have f3 : Int.tdiv (c : Int) 64 = (m : Int) := quon (a := c) (b := 64) m hm
        have f4 : Int.tmod (m : Int) 64 = (n : Int) := remn (a := m) (b := 64) n hn
        have f5 : Int.tmod (c : Int) 64 = (r : Int) := remn (a := c) (b := 64) r hr
        have f6 : IntKind.i64.wrap (240 + (q : Int)) = (x : Int) := addn (a := 240) (b := q) (by rw [← hx]; exact Nat.lt_trans ltx (by decide)) x hx
        have f7 : IntKind.i64.wrap (128 + (s : Int)) = (y : Int) := addn (a := 128) (b := s) (by rw [← hy]; exact Nat.lt_trans lty (by decide)) y hy
        have f8 : IntKind.i64.wrap (128 + (n : Int)) = (z : Int) := addn (a := 128) (b := n) (by rw [← hz]; exact Nat.lt_trans ltz (by decide)) z hz
        have f9 : IntKind.i64.wrap (128 + (r : Int)) = (t : Int) := addn (a := 128) (b := r) (by rw [← ht]; exact Nat.lt_trans ltt (by decide)) t ht
        have vq := w64s ltq
        have wq := i64n ltq
        have vl := w64s ltl
        have wl := i64n ltl
        have vm := w64s ltm
        have wm := i64n ltm
        have ux := u8_in ltx
        have uy := u8_in lty
        have uz := u8_in ltz
        have ut := u8_in ltt
        have HL := Lib.hid (((Below.refl w.heap.size w).alloc (Nat.le_refl _) (.cells #[.int .u8 (x : Int), .int .u8 (y : Int), .int .u8 (z : Int), .int .u8 (t : Int)] 5)))
        clear hb e e2 hv h1 h2 h3 hq hl hs hm hn hr hx hy hz ht
        go_enter Tryd.func19, Tryd.ntmps19
        go_wp2
        go_ret
        exact ⟨rfl, HL.out⟩
end Go.Proofs.YtoghdllppecblaaDoor
