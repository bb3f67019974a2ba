/- Covers: cells, ranges, ranges joined: plain numbers, no program. -/
import Derived.Test.YtihigingddaopaaDoorHPlain
namespace Go.Proofs.YtihigingddaopaaDoor
open Go.RowKit
set_option linter.unusedVariables false
set_option linter.unusedSimpArgs false

/-- A range. -/
abbrev Rg := Nat × Nat
def lastHi (out : List Rg) : Nat := (out.getLastD (0, 0)).2
def jstep (out : List Rg) (r : Rg) : List Rg :=
  if out ≠ [] ∧ lastHi out + 1 = r.1 then out.dropLast ++ [((out.getLastD (0, 0)).1, r.2)] else out ++ [r]
def joinL (S : List Rg) : List Rg := S.foldl jstep []
theorem join_snoc (pre : List Rg) (x : Rg) : joinL (pre ++ [x]) = jstep (joinL pre) x := by unfold joinL; rw [List.foldl_append]; rfl
/-- One behind the other. -/
def Asc (S : List Rg) : Prop := S.Pairwise (fun a b => a.2 < b.1) ∧ ∀ r ∈ S, r.1 ≤ r.2
/-- .. with a gap. -/
def Gap (S : List Rg) : Prop := S.Pairwise (fun a b => a.2 + 1 < b.1) ∧ ∀ r ∈ S, r.1 ≤ r.2
def InR (c : Nat) (S : List Rg) : Prop := ∃ r ∈ S, r.1 ≤ c ∧ c ≤ r.2
theorem lastHi_snoc (ini : List Rg) (l : Rg) : lastHi (ini ++ [l]) = l.2 := by simp [lastHi]
theorem jstep_join {ini : List Rg} {l r : Rg} (h : l.2 + 1 = r.1) : jstep (ini ++ [l]) r = ini ++ [(l.1, r.2)] := by
  unfold jstep
  rw [if_pos ⟨by simp, by rw [lastHi_snoc]; exact h⟩]
  simp
theorem jstep_new {ini : List Rg} {l r : Rg} (h : l.2 + 1 ≠ r.1) : jstep (ini ++ [l]) r = (ini ++ [l]) ++ [r] := by
  unfold jstep
  rw [if_neg (fun e => h (by rw [lastHi_snoc] at e; exact e.2))]
theorem jstep_nil (r : Rg) : jstep [] r = [r] := by unfold jstep; rw [if_neg (by simp)]; rfl
theorem asc_pre {pre : List Rg} {x : Rg} (h : Asc (pre ++ [x])) : Asc pre ∧ (∀ r ∈ pre, r.2 < x.1) ∧ x.1 ≤ x.2 := by
  obtain ⟨h1, h2⟩ := h
  rw [List.pairwise_append] at h1
  exact ⟨⟨h1.1, fun r hr => h2 r (List.mem_append_left _ hr)⟩, fun r hr => h1.2.2 r hr x (by simp), h2 x (by simp)⟩
/-- What has been joined so far. -/
structure JI (pre out : List Rg) : Prop where
  gap : Gap out
  len : out.length ≤ pre.length
  nil : out = [] ↔ pre = []
  top : ∀ r ∈ out, ∃ q ∈ pre, r.2 = q.2
  cov : ∀ c, InR c out ↔ InR c pre
theorem inR_snoc {c : Nat} {S : List Rg} {x : Rg} : InR c (S ++ [x]) ↔ InR c S ∨ (x.1 ≤ c ∧ c ≤ x.2) := by
  unfold InR
  constructor
  · rintro ⟨r, hr, h⟩
    rcases List.mem_append.1 hr with hr | hr
    · exact .inl ⟨r, hr, h⟩
    · rw [List.mem_singleton.1 hr] at h; exact .inr h
  · rintro (⟨r, hr, h⟩ | h)
    · exact ⟨r, List.mem_append_left _ hr, h⟩
    · exact ⟨x, by simp, h⟩
theorem gap_snoc {S : List Rg} {x : Rg} : Gap (S ++ [x]) ↔ Gap S ∧ (∀ r ∈ S, r.2 + 1 < x.1) ∧ x.1 ≤ x.2 := by
  unfold Gap
  rw [List.pairwise_append]
  constructor
  · rintro ⟨⟨h1, _, h3⟩, h4⟩
    exact ⟨⟨h1, fun r hr => h4 r (List.mem_append_left _ hr)⟩, fun r hr => h3 r hr x (by simp), h4 x (by simp)⟩
  · rintro ⟨⟨h1, h2⟩, h3, h4⟩
    refine ⟨⟨h1, by simp, fun a ha b hb => ?_⟩, fun r hr => ?_⟩
    · rw [List.mem_singleton.1 hb]; exact h3 a ha
    · rcases List.mem_append.1 hr with hr | hr
      · exact h2 r hr
      · rw [List.mem_singleton.1 hr]; exact h4
theorem snoc_cases (S : List Rg) : S = [] ∨ ∃ ini l, S = ini ++ [l] := by
  rcases List.eq_nil_or_concat S with h | ⟨ini, l, h⟩
  · exact .inl h
  · exact .inr ⟨ini, l, by rw [h, List.concat_eq_append]⟩
theorem join_inv (S : List Rg) : ∀ n, S.length = n → Asc S → JI S (joinL S) := by
  intro n
  induction n generalizing S with
  | zero =>
    intro h _
    obtain rfl := List.eq_nil_of_length_eq_zero h
    exact ⟨⟨List.Pairwise.nil, fun r h => by cases h⟩, Nat.le_refl _, Iff.rfl, fun r h => (by cases h), fun c => Iff.rfl⟩
  | succ n ih =>
    intro h hA
    rcases snoc_cases S with rfl | ⟨pre, x, rfl⟩
    · simp at h
    obtain ⟨hA1, hlt, hx⟩ := asc_pre hA
    have I := ih pre (by simpa using h) hA1
    rw [join_snoc]
    obtain ⟨out, ho⟩ : ∃ out, out = joinL pre := ⟨_, rfl⟩
    rw [← ho] at I ⊢
    clear ho
    have htop : ∀ r ∈ out, r.2 < x.1 := fun r hr => by
      obtain ⟨q, hq, e⟩ := I.top r hr
      rw [e]
      exact hlt q hq
    rcases snoc_cases out with rfl | ⟨ini, l, rfl⟩
    · rw [jstep_nil]
      have hp : pre = [] := I.nil.1 rfl
      subst hp
      exact ⟨⟨by simp, fun r hr => by rw [List.mem_singleton.1 hr]; exact hx⟩, by simp, by simp, fun r hr => ⟨x, by simp, by rw [List.mem_singleton.1 hr]⟩, fun c => Iff.rfl⟩
    · obtain ⟨hg1, hg2, hg3⟩ := gap_snoc.1 I.gap
      by_cases hj : l.2 + 1 = x.1
      · rw [jstep_join hj]
        refine ⟨gap_snoc.2 ⟨hg1, hg2, by show l.1 ≤ x.2; omega⟩, by have := I.len; simp at this ⊢; omega, by simp, fun r hr => ?_, fun c => ?_⟩
        · rcases List.mem_append.1 hr with hr | hr
          · obtain ⟨q, hq, e⟩ := I.top r (List.mem_append_left _ hr)
            exact ⟨q, List.mem_append_left _ hq, e⟩
          · rw [List.mem_singleton.1 hr]
            exact ⟨x, by simp, rfl⟩
        · rw [inR_snoc, inR_snoc, ← I.cov c, inR_snoc]
          constructor
          · rintro (h | ⟨h1, h2⟩)
            · exact .inl (.inl h)
            · by_cases hc : c ≤ l.2
              · exact .inl (.inr ⟨h1, hc⟩)
              · exact .inr ⟨by omega, h2⟩
          · rintro ((h | ⟨h1, h2⟩) | ⟨h1, h2⟩)
            · exact .inl h
            · exact .inr ⟨h1, by show c ≤ x.2; omega⟩
            · exact .inr ⟨by show l.1 ≤ c; omega, h2⟩
      · rw [jstep_new hj]
        have hl := htop l (by simp)
        refine ⟨gap_snoc.2 ⟨I.gap, fun r hr => ?_, hx⟩, by have := I.len; simp at this ⊢; omega, by simp, fun r hr => ?_, fun c => ?_⟩
        · rcases List.mem_append.1 hr with hr | hr
          · have := hg2 r hr; omega
          · rw [List.mem_singleton.1 hr]; omega
        · rcases List.mem_append.1 hr with hr | hr
          · obtain ⟨q, hq, e⟩ := I.top r hr
            exact ⟨q, List.mem_append_left _ hq, e⟩
          · rw [List.mem_singleton.1 hr]
            exact ⟨x, by simp, rfl⟩
        · rw [inR_snoc (S := ini ++ [l]), inR_snoc (S := pre), I.cov c]
theorem join_good {S : List Rg} (h : Asc S) : JI S (joinL S) := join_inv S _ rfl h
/-- How many ranges hold a number. -/
def inB (c : Nat) (r : Rg) : Bool := decide (r.1 ≤ c) && decide (c ≤ r.2)
def cntR (c : Nat) (S : List Rg) : Nat := (S.filter (inB c)).length
theorem cnt_le {c : Nat} : ∀ {S : List Rg}, Gap S → cntR c S ≤ 1
  | [], _ => by simp [cntR]
  | a :: S, h => by
    obtain ⟨h1, h2⟩ := h
    rw [List.pairwise_cons] at h1
    have ih := cnt_le (c := c) (S := S) ⟨h1.2, fun r hr => h2 r (List.mem_cons_of_mem _ hr)⟩
    unfold cntR at ih ⊢
    rw [List.filter_cons]
    split
    · rename_i hc
      have : S.filter (inB c) = [] := by
        rw [List.filter_eq_nil_iff]
        intro r hr hb
        unfold inB at hc hb
        simp only [Bool.and_eq_true, decide_eq_true_eq] at hc hb
        have := h1.1 r hr
        omega
      rw [this]
      simp
    · exact ih
theorem cnt_pos {c : Nat} {S : List Rg} (h : InR c S) : 1 ≤ cntR c S := by
  obtain ⟨r, hr, h1, h2⟩ := h
  unfold cntR
  rcases Nat.eq_zero_or_pos (S.filter (inB c)).length with h | h
  · have := List.eq_nil_of_length_eq_zero h
    rw [List.filter_eq_nil_iff] at this
    exact absurd (by unfold inB; simp [h1, h2]) (this r hr)
  · exact h
/-- Cells: k halvings. -/
theorem pow2_dvd (k : Nat) : 4 ^ k = 2 ^ k * 2 ^ k := by rw [pow4, ← Nat.pow_add]; congr 1; omega
theorem mix_zero_top {x y k : Nat} (hx : x < 2 ^ k) (hy : y < 2 ^ k) : mixN x y (k + 1) = mixN x y k := by
  rw [mix_top, Nat.div_eq_of_lt hx, Nat.div_eq_of_lt hy]
  simp
theorem mix_div4 {x y : Nat} (hx : x < 4294967296) (hy : y < 4294967296) : mixN x y 32 / 4 = mixN (x / 2) (y / 2) 32 := by
  rw [mix_low, mix_zero_top (k := 31) (by omega) (by omega)]
  omega
theorem mix_div (k : Nat) : ∀ {x y : Nat}, x < 4294967296 → y < 4294967296 → mixN x y 32 / 4 ^ k = mixN (x / 2 ^ k) (y / 2 ^ k) 32 := by
  induction k with
  | zero => intro x y _ _; simp
  | succ k ih =>
    intro x y hx hy
    rw [Nat.pow_succ, Nat.pow_succ, ← Nat.div_div_eq_div_mul, ih hx hy, mix_div4 (Nat.lt_of_le_of_lt (Nat.div_le_self _ _) hx) (Nat.lt_of_le_of_lt (Nat.div_le_self _ _) hy), Nat.div_div_eq_div_mul, Nat.div_div_eq_div_mul]
theorem mix_inj {x y a b : Nat} (hx : x < 4294967296) (hy : y < 4294967296) (ha : a < 4294967296) (hb : b < 4294967296) (h : mixN x y 32 = mixN a b 32) : x = a ∧ y = b := by
  have h1 := gather_x x y 32
  have h2 := gather_y x y 32
  rw [h, gather_x a b 32, Nat.mod_eq_of_lt (by omega), Nat.mod_eq_of_lt (by omega)] at h1
  rw [h, gather_y a b 32, Nat.mod_eq_of_lt (by omega), Nat.mod_eq_of_lt (by omega)] at h2
  exact ⟨h1.symm, h2.symm⟩
/-- The range of a number's cell. -/
def rgOf (k c : Nat) : Rg := (c * 4 ^ k, c * 4 ^ k + 4 ^ k - 1)
/-- A row of numbers, each greater than the one ahead: their ranges are one behind the other. -/
theorem asc_of (k : Nat) : ∀ {cs : List Nat}, cs.Pairwise (· < ·) → Asc (cs.map (rgOf k))
  | [], _ => ⟨List.Pairwise.nil, fun r h => by cases h⟩
  | c :: cs, h => by
    rw [List.pairwise_cons] at h
    have ih := asc_of k h.2
    have hu : 0 < 4 ^ k := Nat.pow_pos (by omega)
    refine ⟨?_, fun r hr => ?_⟩
    · rw [List.map_cons, List.pairwise_cons]
      refine ⟨fun r hr => ?_, ih.1⟩
      obtain ⟨a, ha, rfl⟩ := List.mem_map.1 hr
      have hlt := h.1 a ha
      have hm : (c + 1) * 4 ^ k ≤ a * 4 ^ k := Nat.mul_le_mul_right _ hlt
      rw [Nat.add_mul, Nat.one_mul] at hm
      show c * 4 ^ k + 4 ^ k - 1 < a * 4 ^ k
      omega
    · rw [List.map_cons] at hr
      rcases List.mem_cons.1 hr with rfl | hr
      · show c * 4 ^ k ≤ c * 4 ^ k + 4 ^ k - 1
        omega
      · exact ih.2 r hr
theorem inR_of {k c : Nat} {cs : List Nat} (h : c / 4 ^ k ∈ cs) : InR c (cs.map (rgOf k)) := by
  have hu : 0 < 4 ^ k := Nat.pow_pos (by omega)
  refine ⟨_, List.mem_map.2 ⟨_, h, rfl⟩, ?_, ?_⟩
  · exact Nat.div_mul_le_self c _
  · have := Nat.lt_div_mul_add (a := c) hu
    show c ≤ c / 4 ^ k * 4 ^ k + 4 ^ k - 1
    omega
/-- The numbers of a block's cells, column by column. -/
def colL (c d x : Nat) : List Nat := (List.range' c (d - c + 1)).map fun y => mixN x y 32
def codesL (a b c d : Nat) : List Nat := (List.range' a (b - a + 1)).flatMap (colL c d)
theorem codes_len (a b c d : Nat) : (codesL a b c d).length = (b - a + 1) * (d - c + 1) := by
  unfold codesL
  rw [List.length_flatMap]
  have : (fun x => (colL c d x).length) = fun _ => d - c + 1 := by funext x; simp [colL]
  rw [this, List.map_const', List.length_range']
  generalize b - a + 1 = n
  generalize d - c + 1 = m
  induction n with
  | zero => simp
  | succ n ih => rw [List.replicate_succ, List.sum_cons, ih, Nat.add_mul]; omega
theorem codes_mem {a b c d n : Nat} : n ∈ codesL a b c d ↔ ∃ x y, (a ≤ x ∧ x < a + (b - a + 1)) ∧ (c ≤ y ∧ y < c + (d - c + 1)) ∧ n = mixN x y 32 := by
  unfold codesL colL
  simp only [List.mem_flatMap, List.mem_map, List.mem_range'_1]
  constructor
  · rintro ⟨x, hx, y, hy, rfl⟩
    exact ⟨x, y, hx, hy, rfl⟩
  · rintro ⟨x, y, hx, hy, rfl⟩
    exact ⟨x, hx, y, hy, rfl⟩
theorem codes_nodup {a b c d : Nat} (hab : a ≤ b) (hb : b < 4294967296) (hcd : c ≤ d) (hd : d < 4294967296) : (codesL a b c d).Nodup := by
  unfold codesL
  rw [List.Nodup, List.pairwise_flatMap]
  refine ⟨fun x hx => ?_, ?_⟩
  · rw [List.mem_range'_1] at hx
    unfold colL
    rw [List.pairwise_map]
    refine (List.nodup_range' (s := c) (n := d - c + 1)).imp_of_mem ?_
    intro p q hp hq hne h
    rw [List.mem_range'_1] at hp hq
    exact hne (mix_inj (by omega) (by omega) (by omega) (by omega) h).2
  · refine (List.nodup_range' (s := a) (n := b - a + 1)).imp_of_mem ?_
    intro p q hp hq hne u hu v hv h
    rw [List.mem_range'_1] at hp hq
    unfold colL at hu hv
    obtain ⟨y, hy, rfl⟩ := List.mem_map.1 hu
    obtain ⟨z, hz, rfl⟩ := List.mem_map.1 hv
    rw [List.mem_range'_1] at hy hz
    exact hne (mix_inj (by omega) (by omega) (by omega) (by omega) h).1
theorem rg_div (k c : Nat) : (rgOf k c).1 / 4 ^ k = c := Nat.mul_div_cancel _ (Nat.pow_pos (by omega))
/-- Ranges of cells, put in order. -/
theorem sorted_cells {k : Nat} {codes : List Nat} {S : List Rg} (hp : S.Perm (codes.map (rgOf k))) (hs : S.Pairwise (fun a b => ¬ b.1 < a.1)) (hn : codes.Nodup) :
    ∃ cs : List Nat, S = cs.map (rgOf k) ∧ cs.Pairwise (· < ·) ∧ cs.Perm codes := by
  have h1 : ∀ r ∈ S, rgOf k (r.1 / 4 ^ k) = r := fun r hr => by
    obtain ⟨c, _, rfl⟩ := List.mem_map.1 (hp.mem_iff.1 hr)
    rw [rg_div]
  have hS : S = (S.map fun r => r.1 / 4 ^ k).map (rgOf k) := by
    rw [List.map_map]
    conv => lhs; rw [← List.map_id S]
    apply List.map_congr_left
    intro r hr
    exact (h1 r hr).symm
  have hperm : (S.map fun r => r.1 / 4 ^ k).Perm codes := by
    have := hp.map (fun r : Rg => r.1 / 4 ^ k)
    rw [List.map_map] at this
    have e : codes.map ((fun r : Rg => r.1 / 4 ^ k) ∘ rgOf k) = codes := by
      conv => rhs; rw [← List.map_id codes]
      apply List.map_congr_left
      intro c _
      exact rg_div k c
    rw [e] at this
    exact this
  refine ⟨_, hS, ?_, hperm⟩
  have hnd : (S.map fun r => r.1 / 4 ^ k).Nodup := hperm.nodup_iff.2 hn
  rw [List.pairwise_map]
  rw [List.Nodup, List.pairwise_map] at hnd
  refine (hs.and hnd).imp ?_
  rintro a b ⟨h2, h3⟩
  have := Nat.div_le_div_right (c := 4 ^ k) (Nat.le_of_not_lt h2)
  omega
/-- A rect's sides, as whole numbers from 0. -/
structure Bk where
  a : Nat
  c : Nat
  b : Nat
  d : Nat
def Bk.up (B : Bk) (k : Nat) : Bk := ⟨B.a / 2 ^ k, B.c / 2 ^ k, B.b / 2 ^ k, B.d / 2 ^ k⟩
def Bk.cnt (B : Bk) : Nat := (B.b - B.a + 1) * (B.d - B.c + 1)
def Bk.ok (B : Bk) : Prop := B.a ≤ B.b ∧ B.b < 4294967296 ∧ B.c ≤ B.d ∧ B.d < 4294967296
def Bk.codes (B : Bk) : List Nat := codesL B.a B.b B.c B.d
theorem Bk.up_ok {B : Bk} (h : B.ok) (k : Nat) : (B.up k).ok :=
  ⟨Nat.div_le_div_right h.1, Nat.lt_of_le_of_lt (Nat.div_le_self _ _) h.2.1, Nat.div_le_div_right h.2.2.1, Nat.lt_of_le_of_lt (Nat.div_le_self _ _) h.2.2.2⟩
theorem Bk.up_succ (B : Bk) (k : Nat) : B.up (k + 1) = ⟨(B.up k).a / 2, (B.up k).c / 2, (B.up k).b / 2, (B.up k).d / 2⟩ := by
  unfold Bk.up
  simp only [Nat.div_div_eq_div_mul, Nat.pow_succ]
theorem Bk.up_zero (B : Bk) : B.up 0 = B := by simp [Bk.up]
theorem Bk.cnt_32 {B : Bk} (h : B.ok) : (B.up 32).cnt = 1 := by
  obtain ⟨h1, h2, h3, h4⟩ := h
  have e1 : B.b / 2 ^ 32 = 0 := Nat.div_eq_of_lt h2
  have e2 : B.d / 2 ^ 32 = 0 := Nat.div_eq_of_lt h4
  unfold Bk.cnt Bk.up
  dsimp only
  rw [e1, e2]
  simp
/-- A cover: of the cells that k halvings leave, few enough. -/
def Covers (B : Bk) (most : Nat) (L : List Rg) : Prop := ∃ k S, k ≤ 32 ∧ (B.up k).cnt ≤ most ∧ (∀ j, j < k → most < (B.up j).cnt) ∧ S.Perm ((B.up k).codes.map (rgOf k)) ∧ S.Pairwise (fun a b => ¬ b.1 < a.1) ∧ L = joinL S
theorem cover_good {B : Bk} {most : Nat} {L : List Rg} (hB : B.ok) (h : Covers B most L) : Gap L ∧ L ≠ [] ∧ L.length ≤ most ∧
    ∀ x y, B.a ≤ x → x ≤ B.b → B.c ≤ y → y ≤ B.d → InR (mixN x y 32) L := by
  obtain ⟨k, S, hk, hc, _, hp, hs, rfl⟩ := h
  have hu := Bk.up_ok hB k
  obtain ⟨cs, rfl, hcs, hpc⟩ := sorted_cells hp hs (codes_nodup hu.1 hu.2.1 hu.2.2.1 hu.2.2.2)
  have J := join_good (asc_of k hcs)
  have hlen : cs.length = (B.up k).cnt := by rw [hpc.length_eq]; exact codes_len _ _ _ _
  refine ⟨J.gap, fun e => ?_, ?_, fun x y h1 h2 h3 h4 => ?_⟩
  · have := J.nil.1 e
    rw [List.map_eq_nil_iff] at this
    rw [this] at hlen
    have : 0 < (B.up k).cnt := Nat.mul_pos (by omega) (by omega)
    simp at hlen
    omega
  · have := J.len
    rw [List.length_map, hlen] at this
    omega
  · rw [J.cov]
    obtain ⟨o1, o2, o3, o4⟩ := hB
    apply inR_of
    rw [mix_div k (by omega) (by omega), hpc.mem_iff]
    have g1 : B.a / 2 ^ k ≤ x / 2 ^ k := Nat.div_le_div_right h1
    have g2 : x / 2 ^ k ≤ B.b / 2 ^ k := Nat.div_le_div_right h2
    have g3 : B.c / 2 ^ k ≤ y / 2 ^ k := Nat.div_le_div_right h3
    have g4 : y / 2 ^ k ≤ B.d / 2 ^ k := Nat.div_le_div_right h4
    exact codes_mem.2 ⟨_, _, ⟨g1, by show _ < B.a / 2 ^ k + (B.b / 2 ^ k - B.a / 2 ^ k + 1); omega⟩, ⟨g3, by show _ < B.c / 2 ^ k + (B.d / 2 ^ k - B.c / 2 ^ k + 1); omega⟩, rfl⟩
theorem spot_codes (x y : Nat) : Bk.codes ⟨x, y, x, y⟩ = [mixN x y 32] := by
  unfold Bk.codes codesL colL
  dsimp only
  rw [Nat.sub_self, Nat.sub_self]
  rfl
theorem spot_rg (m : Nat) : rgOf 0 m = (m, m) := by unfold rgOf; rw [Nat.pow_zero, Nat.mul_one, Nat.add_sub_cancel]
theorem spot_join {S : List Rg} {m : Nat} {L : List Nat} (hL : L = [m]) (hp : S.Perm (L.map (rgOf 0))) : joinL S = [(m, m)] := by
  subst hL
  rw [List.map_cons, List.map_nil, spot_rg, List.perm_singleton] at hp
  rw [hp]
  exact jstep_nil (m, m)
theorem spot_cnt (x y : Nat) : Bk.cnt ⟨x, y, x, y⟩ = 1 := by unfold Bk.cnt; dsimp only; rw [Nat.sub_self, Nat.sub_self]
/-- The cover of one place. -/
theorem cover_spot {x y most : Nat} {L : List Rg} (hm : 1 ≤ most) (h : Covers ⟨x, y, x, y⟩ most L) : L = [(mixN x y 32, mixN x y 32)] := by
  obtain ⟨k, S, hk, hc, hj, hp, hs, rfl⟩ := h
  rcases Nat.eq_zero_or_pos k with h | h
  · rw [h, Bk.up_zero] at hp
    exact spot_join (spot_codes x y) hp
  · have h0 := hj 0 h
    rw [Bk.up_zero, spot_cnt] at h0
    exact absurd h0 (by omega)
end Go.Proofs.YtihigingddaopaaDoor
