/- json.alike, way by way; Same. -/
import Derived.Test.YtpmhefdalhohdaaDoorOAlikeM
import Derived.LaidEql
import Derived.Lib.IfaceEq
namespace Go.Proofs.YtpmhefdalhohdaaDoor
open Go.RowKit
set_option linter.unusedVariables false

theorem eqI_nil (tp : TypeId) (v : Value) (w : World) : (binOp .eql 20 .nilIface (.iface tp v)).run Tryd.prog w = .ok (.bool false) w := run_eql_iface_nil_left w tp v Tryd.underlying20
attribute [go_sem] eqI_nil
theorem eqI_nn (w : World) : (binOp .eql 20 .nilIface .nilIface).run Tryd.prog w = .ok (.bool true) w := by
  have h : ∀ d : Nat, (Op.equalIn (d + 1) 20 .nilIface .nilIface).run Tryd.prog w = .ok true w := fun d => by simp [Op.equalIn, run_underlying Tryd.underlying20]
  simp only [binOp]
  simp [Op.equal, Op.maxDepth, h 9999]
attribute [go_sem] eqI_nn
theorem eqG_nn (x y : Operand) (w : World) : (eqGuard .eql 20 x y .nilIface .nilIface).run Tryd.prog w = .ok () w := by
  have h : ∀ d : Nat, (Op.eqGuardIn (d + 1) 20 .nilIface .nilIface).run Tryd.prog w = .ok false w := fun d => by simp [Op.eqGuardIn, run_underlying Tryd.underlying20]
  unfold eqGuard
  simp only [Bool.not_true]
  split
  · simp
  · split
    · simp
    · simp [Op.maxDepth, h 9999]
attribute [go_sem] eqG_nn
theorem eqI_nil2 (tp : TypeId) (v : Value) (w : World) : (binOp .eql 20 (.iface tp v) .nilIface).run Tryd.prog w = .ok (.bool false) w := by
  have h : ∀ d : Nat, (Op.equalIn (d + 1) 20 (.iface tp v) .nilIface).run Tryd.prog w = .ok false w := fun d => by simp [Op.equalIn, run_underlying Tryd.underlying20]
  simp only [binOp]
  simp [Op.equal, Op.maxDepth, h 9999]
attribute [go_sem] eqI_nil2
theorem eqI_ne (tx ty : TypeId) (v u : Value) (w : World) (hne : tx ≠ ty) : (binOp .eql 20 (.iface tx v) (.iface ty u)).run Tryd.prog w = .ok (.bool false) w := by
  have h : ∀ d : Nat, (Op.equalIn (d + 1) 20 (.iface tx v) (.iface ty u)).run Tryd.prog w = .ok false w := fun d => by simp [Op.equalIn, run_underlying Tryd.underlying20, hne]
  simp only [binOp]
  simp [Op.equal, Op.maxDepth, h 9999]
attribute [go_sem] eqI_ne
theorem eqI_num (a b : Int) (w : World) : (binOp .eql 20 (.iface 54 (.int .i64 a)) (.iface 54 (.int .i64 b))).run Tryd.prog w = .ok (.bool (a == b)) w := Lib.run_eql_iface_int w a b Tryd.underlying20 (by kernel_rfl) Tryd.underlying54
attribute [go_sem] eqI_num
theorem eqI_bool (a b : Bool) (w : World) : (binOp .eql 20 (.iface 4 (.bool a)) (.iface 4 (.bool b))).run Tryd.prog w = .ok (.bool (a == b)) w := by
  have hc : (Tryd.prog.info? 4).map (·.comparable) = some true := by kernel_rfl
  cases hi : Tryd.prog.info? 4 with
  | none => simp [hi] at hc
  | some i =>
    have hcc : i.comparable = true := by simpa [hi] using hc
    have h : ∀ d : Nat, (Op.equalIn (d + 2) 20 (.iface 4 (.bool a)) (.iface 4 (.bool b))).run Tryd.prog w = .ok (a == b) w := fun d => by
      simp [Op.equalIn, run_underlying Tryd.underlying20, run_underlying Tryd.underlying4, typeInfo, hi, hcc]
    simp only [binOp]
    simp [Op.equal, Op.maxDepth, h 9998]
attribute [go_sem] eqI_bool
theorem eqI_text (a b : ByteArray) (w : World) : (binOp .eql 20 (.iface 9 (.string a)) (.iface 9 (.string b))).run Tryd.prog w = .ok (.bool (a == b)) w := by
  have hc : (Tryd.prog.info? 9).map (·.comparable) = some true := by kernel_rfl
  cases hi : Tryd.prog.info? 9 with
  | none => simp [hi] at hc
  | some i =>
    have hcc : i.comparable = true := by simpa [hi] using hc
    have h : ∀ d : Nat, (Op.equalIn (d + 2) 20 (.iface 9 (.string a)) (.iface 9 (.string b))).run Tryd.prog w = .ok (a == b) w := fun d => by
      simp [Op.equalIn, run_underlying Tryd.underlying20, run_underlying Tryd.underlying9, typeInfo, hi, hcc]
    simp only [binOp]
    simp [Op.equal, Op.maxDepth, h 9998]
attribute [go_sem] eqI_text
set_option maxHeartbeats 4000000 in
set_option maxRecDepth 100000 in
theorem alike_ne0 (b1 : Bool) (n1 : Int) (s1 : ByteArray) (A1 : Option Addr) (m1 c1 : Nat) (v2 : Value) (b2 : Bool) (n2 : Int) (s2 : ByteArray) (A2 : Option Addr) (m2 c2 : Nat) (w : World) (h : v2 = .iface 4 (.bool b2) ∨ v2 = .iface 54 (.int .i64 n2) ∨ v2 = .iface 9 (.string s2) ∨ v2 = .iface 50 (.slice A2 m2 c2) ∨ v2 = .iface 56 (.slice A2 m2 c2)) :
    Calls Tryd.prog 37 #[.nilIface, v2] w fun e w' => e = .returned (.bool false) ∧ w = w' := by
  rcases h with rfl | rfl | rfl | rfl | rfl
  all_goals
    go_enter Tryd.func37, Tryd.ntmps37
    go_wp2_with fail
    go_ret
    exact ⟨rfl, rfl⟩
set_option maxHeartbeats 4000000 in
set_option maxRecDepth 100000 in
theorem alike_ne1 (b1 : Bool) (n1 : Int) (s1 : ByteArray) (A1 : Option Addr) (m1 c1 : Nat) (v2 : Value) (b2 : Bool) (n2 : Int) (s2 : ByteArray) (A2 : Option Addr) (m2 c2 : Nat) (w : World) (h : v2 = .nilIface ∨ v2 = .iface 54 (.int .i64 n2) ∨ v2 = .iface 9 (.string s2) ∨ v2 = .iface 50 (.slice A2 m2 c2) ∨ v2 = .iface 56 (.slice A2 m2 c2)) :
    Calls Tryd.prog 37 #[.iface 4 (.bool b1), v2] w fun e w' => e = .returned (.bool false) ∧ w = w' := by
  rcases h with rfl | rfl | rfl | rfl | rfl
  all_goals
    go_enter Tryd.func37, Tryd.ntmps37
    go_wp2_with fail
    go_ret
    exact ⟨rfl, rfl⟩
set_option maxHeartbeats 4000000 in
set_option maxRecDepth 100000 in
theorem alike_ne2 (b1 : Bool) (n1 : Int) (s1 : ByteArray) (A1 : Option Addr) (m1 c1 : Nat) (v2 : Value) (b2 : Bool) (n2 : Int) (s2 : ByteArray) (A2 : Option Addr) (m2 c2 : Nat) (w : World) (h : v2 = .nilIface ∨ v2 = .iface 4 (.bool b2) ∨ v2 = .iface 9 (.string s2) ∨ v2 = .iface 50 (.slice A2 m2 c2) ∨ v2 = .iface 56 (.slice A2 m2 c2)) :
    Calls Tryd.prog 37 #[.iface 54 (.int .i64 n1), v2] w fun e w' => e = .returned (.bool false) ∧ w = w' := by
  rcases h with rfl | rfl | rfl | rfl | rfl
  all_goals
    go_enter Tryd.func37, Tryd.ntmps37
    go_wp2_with fail
    go_ret
    exact ⟨rfl, rfl⟩
set_option maxHeartbeats 4000000 in
set_option maxRecDepth 100000 in
theorem alike_ne3 (b1 : Bool) (n1 : Int) (s1 : ByteArray) (A1 : Option Addr) (m1 c1 : Nat) (v2 : Value) (b2 : Bool) (n2 : Int) (s2 : ByteArray) (A2 : Option Addr) (m2 c2 : Nat) (w : World) (h : v2 = .nilIface ∨ v2 = .iface 4 (.bool b2) ∨ v2 = .iface 54 (.int .i64 n2) ∨ v2 = .iface 50 (.slice A2 m2 c2) ∨ v2 = .iface 56 (.slice A2 m2 c2)) :
    Calls Tryd.prog 37 #[.iface 9 (.string s1), v2] w fun e w' => e = .returned (.bool false) ∧ w = w' := by
  rcases h with rfl | rfl | rfl | rfl | rfl
  all_goals
    go_enter Tryd.func37, Tryd.ntmps37
    go_wp2_with fail
    go_ret
    exact ⟨rfl, rfl⟩
set_option maxHeartbeats 4000000 in
set_option maxRecDepth 100000 in
theorem alike_ne4 (b1 : Bool) (n1 : Int) (s1 : ByteArray) (A1 : Option Addr) (m1 c1 : Nat) (v2 : Value) (b2 : Bool) (n2 : Int) (s2 : ByteArray) (A2 : Option Addr) (m2 c2 : Nat) (w : World) (h : v2 = .nilIface ∨ v2 = .iface 4 (.bool b2) ∨ v2 = .iface 54 (.int .i64 n2) ∨ v2 = .iface 9 (.string s2) ∨ v2 = .iface 56 (.slice A2 m2 c2)) :
    Calls Tryd.prog 37 #[.iface 50 (.slice A1 m1 c1), v2] w fun e w' => e = .returned (.bool false) ∧ w = w' := by
  rcases h with rfl | rfl | rfl | rfl | rfl
  all_goals
    go_enter Tryd.func37, Tryd.ntmps37
    go_wp2_with fail
    go_ret
    exact ⟨rfl, rfl⟩
set_option maxHeartbeats 4000000 in
set_option maxRecDepth 100000 in
theorem alike_ne5 (b1 : Bool) (n1 : Int) (s1 : ByteArray) (A1 : Option Addr) (m1 c1 : Nat) (v2 : Value) (b2 : Bool) (n2 : Int) (s2 : ByteArray) (A2 : Option Addr) (m2 c2 : Nat) (w : World) (h : v2 = .nilIface ∨ v2 = .iface 4 (.bool b2) ∨ v2 = .iface 54 (.int .i64 n2) ∨ v2 = .iface 9 (.string s2) ∨ v2 = .iface 50 (.slice A2 m2 c2)) :
    Calls Tryd.prog 37 #[.iface 56 (.slice A1 m1 c1), v2] w fun e w' => e = .returned (.bool false) ∧ w = w' := by
  rcases h with rfl | rfl | rfl | rfl | rfl
  all_goals
    go_enter Tryd.func37, Tryd.ntmps37
    go_wp2_with fail
    go_ret
    exact ⟨rfl, rfl⟩
set_option maxHeartbeats 4000000 in
set_option maxRecDepth 100000 in
theorem alike_nil (w : World) : Calls Tryd.prog 37 #[.nilIface, .nilIface] w fun e w' => e = .returned (.bool true) ∧ w = w' := by
  go_enter Tryd.func37, Tryd.ntmps37
  go_wp2_with fail
  go_ret
  exact ⟨rfl, rfl⟩
set_option maxHeartbeats 4000000 in
set_option maxRecDepth 100000 in
theorem alike_bool (b1 b2 : Bool) (w : World) : Calls Tryd.prog 37 #[.iface 4 (.bool b1), .iface 4 (.bool b2)] w fun e w' => e = .returned (.bool (b1 == b2)) ∧ w = w' := by
  cases b1 <;> cases b2
  all_goals
    go_enter Tryd.func37, Tryd.ntmps37
    go_wp2_with fail
    go_ret
    exact ⟨rfl, rfl⟩
set_option maxHeartbeats 4000000 in
set_option maxRecDepth 100000 in
theorem alike_num (n1 n2 : Int) (w : World) : Calls Tryd.prog 37 #[.iface 54 (.int .i64 n1), .iface 54 (.int .i64 n2)] w fun e w' => e = .returned (.bool (n1 == n2)) ∧ w = w' := by
  go_enter Tryd.func37, Tryd.ntmps37
  go_wp2_with fail
  go_ret
  exact ⟨rfl, rfl⟩
set_option maxHeartbeats 4000000 in
set_option maxRecDepth 100000 in
theorem alike_text (s1 s2 : ByteArray) (w : World) : Calls Tryd.prog 37 #[.iface 9 (.string s1), .iface 9 (.string s2)] w fun e w' => e = .returned (.bool (s1 == s2)) ∧ w = w' := by
  go_enter Tryd.func37, Tryd.ntmps37
  go_wp2_with fail
  go_ret
  exact ⟨rfl, rfl⟩
set_option maxHeartbeats 4000000 in
set_option maxRecDepth 100000 in
theorem alike_row4 (A1 A2 : Option Addr) (m1 c1 m2 c2 : Nat) (r : Bool) (w : World) (K : Calls Tryd.prog 57 #[.slice A1 m1 c1, .slice A2 m2 c2, .func (.func 37) #[] #[]] w fun e w' => e = .returned (.bool r) ∧ Below w.heap.size w w') :
    Calls Tryd.prog 37 #[.iface 50 (.slice A1 m1 c1), .iface 50 (.slice A2 m2 c2)] w fun e w' => e = .returned (.bool r) ∧ Below w.heap.size w w' := by
  have C := Lib.hid K
  clear K
  go_enter Tryd.func37, Tryd.ntmps37
  go_wp2_with fail
  refine C.out.mono ?_
  rintro e w2 ⟨rfl, l2⟩
  have HL2 := Lib.hid l2
  clear l2
  go_wp2_with fail
  go_ret
  exact ⟨rfl, HL2.out⟩
set_option maxHeartbeats 4000000 in
set_option maxRecDepth 100000 in
theorem alike_row5 (A1 A2 : Option Addr) (m1 c1 m2 c2 : Nat) (r : Bool) (w : World) (K : Calls Tryd.prog 58 #[.slice A1 m1 c1, .slice A2 m2 c2, .func (.func 59) #[] #[]] w fun e w' => e = .returned (.bool r) ∧ Below w.heap.size w w') :
    Calls Tryd.prog 37 #[.iface 56 (.slice A1 m1 c1), .iface 56 (.slice A2 m2 c2)] w fun e w' => e = .returned (.bool r) ∧ Below w.heap.size w w' := by
  have C := Lib.hid K
  clear K
  go_enter Tryd.func37, Tryd.ntmps37
  go_wp2_with fail
  refine C.out.mono ?_
  rintro e w2 ⟨rfl, l2⟩
  have HL2 := Lib.hid l2
  clear l2
  go_wp2_with fail
  go_ret
  exact ⟨rfl, HL2.out⟩
theorem bool_of {w : World} {S : Nat → Prop} {k n m q : _} {b s f g} {v : Value} (h : HasJ w S (.mk k b n s m f q g) v) (hk : k = 1) : v = .iface 4 (.bool b) := by
  rcases h with ⟨e, _⟩ | ⟨_, rfl⟩ | ⟨e, _⟩ | ⟨e, _⟩ | ⟨e, _⟩ | ⟨e, _⟩ | ⟨e, _⟩
  all_goals first | rfl | omega
theorem cmpV_kind {t u : VT} (ft : Fit t) (fu : Fit u) (h : t.k ≠ u.k) : cmpV t u ≠ 0 := by
  have h1 := rank_kind ft
  have h2 := rank_kind fu
  have hr : rankV t ≠ rankV u := by omega
  rw [cmpV_ne ft hr]
  intro e
  exact hr (cmpI_zero.1 e)
set_option maxHeartbeats 4000000 in
set_option maxRecDepth 100000 in
theorem alike_mk (k : Int) (b : Bool) (n : Int) (s : ByteArray) (m : Nat) (f : Nat → VT) (q : Nat) (g : Nat → ByteArray) (ih : ∀ i, AlikeC (f i)) : AlikeC (.mk k b n s m f q g) := by
  intro u v1 v2 w h1 h2 f1 f2
  have hk := f1.kind
  have hk : 0 ≤ k ∧ k ≤ 5 := hk
  have hku := f2.kind
  rcases u with _ | ⟨k', b', n', s', m', f', q', g'⟩
  · exact h2.elim
  have hku : 0 ≤ k' ∧ k' ≤ 5 := hku
  by_cases hkk : k = k'
  case neg =>
    have HE : decide (cmpV (.mk k b n s m f q g) (.mk k' b' n' s' m' f' q' g') = 0) = false := decide_eq_false (cmpV_kind f1 f2 hkk)
    rw [HE]
    have e2 : (k' = 0 ∧ v2 = .nilIface) ∨ (k' = 1 ∧ v2 = .iface 4 (.bool b')) ∨ (k' = 2 ∧ v2 = .iface 54 (.int .i64 n')) ∨ (k' = 3 ∧ v2 = .iface 9 (.string s')) ∨ (k' = 4 ∧ ∃ A c, v2 = .iface 50 (.slice A m' c)) ∨ (k' = 5 ∧ ∃ A c, v2 = .iface 56 (.slice A m' c)) := by
      rcases h2 with h | h | ⟨h, e, _⟩ | ⟨h, e, _⟩ | ⟨h, A, c, e, _⟩ | ⟨h, A, c, e, _⟩ | ⟨h, _⟩
      · exact .inl h
      · exact .inr (.inl h)
      · exact .inr (.inr (.inl ⟨h, e⟩))
      · exact .inr (.inr (.inr (.inl ⟨h, e⟩)))
      · exact .inr (.inr (.inr (.inr (.inl ⟨h, A, c, e⟩))))
      · exact .inr (.inr (.inr (.inr (.inr ⟨h, A, c, e⟩))))
      · omega
    have fin : ∀ {v : Value}, (Calls Tryd.prog 37 #[v, v2] w fun e w' => e = .returned (.bool false) ∧ w = w') → Calls Tryd.prog 37 #[v, v2] w fun e w' => e = .returned (.bool false) ∧ Below w.heap.size w w' := fun h => h.mono fun e w' ⟨h1, h2⟩ => ⟨h1, by rw [← h2]; exact Below.refl _ _⟩
    rcases h1 with ⟨rfl, rfl⟩ | ⟨rfl, rfl⟩ | ⟨rfl, rfl, _⟩ | ⟨rfl, rfl, _⟩ | ⟨rfl, A, c, rfl, _⟩ | ⟨rfl, A, c, rfl, _⟩ | ⟨h, _⟩
    · rcases e2 with ⟨h, rfl⟩ | ⟨h, rfl⟩ | ⟨h, rfl⟩ | ⟨h, rfl⟩ | ⟨h, A2, c2, rfl⟩ | ⟨h, A2, c2, rfl⟩
      · first | omega | exact fin (alike_ne0 false 0 s none 0 0 _ b' n' s' none m' 0 w (by simp))
      · first | omega | exact fin (alike_ne0 false 0 s none 0 0 _ b' n' s' none m' 0 w (by simp))
      · first | omega | exact fin (alike_ne0 false 0 s none 0 0 _ b' n' s' none m' 0 w (by simp))
      · first | omega | exact fin (alike_ne0 false 0 s none 0 0 _ b' n' s' none m' 0 w (by simp))
      · first | omega | exact fin (alike_ne0 false 0 s none 0 0 _ b' n' s' A2 m' c2 w (by simp))
      · first | omega | exact fin (alike_ne0 false 0 s none 0 0 _ b' n' s' A2 m' c2 w (by simp))
    · rcases e2 with ⟨h, rfl⟩ | ⟨h, rfl⟩ | ⟨h, rfl⟩ | ⟨h, rfl⟩ | ⟨h, A2, c2, rfl⟩ | ⟨h, A2, c2, rfl⟩
      · first | omega | exact fin (alike_ne1 b 0 s none 0 0 _ b' n' s' none m' 0 w (by simp))
      · first | omega | exact fin (alike_ne1 b 0 s none 0 0 _ b' n' s' none m' 0 w (by simp))
      · first | omega | exact fin (alike_ne1 b 0 s none 0 0 _ b' n' s' none m' 0 w (by simp))
      · first | omega | exact fin (alike_ne1 b 0 s none 0 0 _ b' n' s' none m' 0 w (by simp))
      · first | omega | exact fin (alike_ne1 b 0 s none 0 0 _ b' n' s' A2 m' c2 w (by simp))
      · first | omega | exact fin (alike_ne1 b 0 s none 0 0 _ b' n' s' A2 m' c2 w (by simp))
    · rcases e2 with ⟨h, rfl⟩ | ⟨h, rfl⟩ | ⟨h, rfl⟩ | ⟨h, rfl⟩ | ⟨h, A2, c2, rfl⟩ | ⟨h, A2, c2, rfl⟩
      · first | omega | exact fin (alike_ne2 false n s none 0 0 _ b' n' s' none m' 0 w (by simp))
      · first | omega | exact fin (alike_ne2 false n s none 0 0 _ b' n' s' none m' 0 w (by simp))
      · first | omega | exact fin (alike_ne2 false n s none 0 0 _ b' n' s' none m' 0 w (by simp))
      · first | omega | exact fin (alike_ne2 false n s none 0 0 _ b' n' s' none m' 0 w (by simp))
      · first | omega | exact fin (alike_ne2 false n s none 0 0 _ b' n' s' A2 m' c2 w (by simp))
      · first | omega | exact fin (alike_ne2 false n s none 0 0 _ b' n' s' A2 m' c2 w (by simp))
    · rcases e2 with ⟨h, rfl⟩ | ⟨h, rfl⟩ | ⟨h, rfl⟩ | ⟨h, rfl⟩ | ⟨h, A2, c2, rfl⟩ | ⟨h, A2, c2, rfl⟩
      · first | omega | exact fin (alike_ne3 false 0 s none 0 0 _ b' n' s' none m' 0 w (by simp))
      · first | omega | exact fin (alike_ne3 false 0 s none 0 0 _ b' n' s' none m' 0 w (by simp))
      · first | omega | exact fin (alike_ne3 false 0 s none 0 0 _ b' n' s' none m' 0 w (by simp))
      · first | omega | exact fin (alike_ne3 false 0 s none 0 0 _ b' n' s' none m' 0 w (by simp))
      · first | omega | exact fin (alike_ne3 false 0 s none 0 0 _ b' n' s' A2 m' c2 w (by simp))
      · first | omega | exact fin (alike_ne3 false 0 s none 0 0 _ b' n' s' A2 m' c2 w (by simp))
    · rcases e2 with ⟨h, rfl⟩ | ⟨h, rfl⟩ | ⟨h, rfl⟩ | ⟨h, rfl⟩ | ⟨h, A2, c2, rfl⟩ | ⟨h, A2, c2, rfl⟩
      · first | omega | exact fin (alike_ne4 false 0 s A m c _ b' n' s' none m' 0 w (by simp))
      · first | omega | exact fin (alike_ne4 false 0 s A m c _ b' n' s' none m' 0 w (by simp))
      · first | omega | exact fin (alike_ne4 false 0 s A m c _ b' n' s' none m' 0 w (by simp))
      · first | omega | exact fin (alike_ne4 false 0 s A m c _ b' n' s' none m' 0 w (by simp))
      · first | omega | exact fin (alike_ne4 false 0 s A m c _ b' n' s' A2 m' c2 w (by simp))
      · first | omega | exact fin (alike_ne4 false 0 s A m c _ b' n' s' A2 m' c2 w (by simp))
    · rcases e2 with ⟨h, rfl⟩ | ⟨h, rfl⟩ | ⟨h, rfl⟩ | ⟨h, rfl⟩ | ⟨h, A2, c2, rfl⟩ | ⟨h, A2, c2, rfl⟩
      · first | omega | exact fin (alike_ne5 false 0 s A m c _ b' n' s' none m' 0 w (by simp))
      · first | omega | exact fin (alike_ne5 false 0 s A m c _ b' n' s' none m' 0 w (by simp))
      · first | omega | exact fin (alike_ne5 false 0 s A m c _ b' n' s' none m' 0 w (by simp))
      · first | omega | exact fin (alike_ne5 false 0 s A m c _ b' n' s' none m' 0 w (by simp))
      · first | omega | exact fin (alike_ne5 false 0 s A m c _ b' n' s' A2 m' c2 w (by simp))
      · first | omega | exact fin (alike_ne5 false 0 s A m c _ b' n' s' A2 m' c2 w (by simp))
    · omega
  subst hkk
  have sameW : ∀ {v v' : Value} {r r' : Bool}, (Calls Tryd.prog 37 #[v, v'] w fun e w' => e = .returned (.bool r) ∧ w = w') → r = r' → Calls Tryd.prog 37 #[v, v'] w fun e w' => e = .returned (.bool r') ∧ Below w.heap.size w w' := fun h e => h.mono fun _ w' ⟨h1, h2⟩ => ⟨by rw [h1, e], by rw [← h2]; exact Below.refl _ _⟩
  rcases (show k = 0 ∨ k = 1 ∨ k = 2 ∨ k = 3 ∨ k = 4 ∨ k = 5 by omega) with rfl | rfl | rfl | rfl | rfl | rfl
  · obtain rfl := HasJ.nil_of h1 rfl
    obtain rfl := HasJ.nil_of h2 rfl
    refine sameW (alike_nil w) (decide_eq_true ?_).symm
    exact cmpV_low rfl (by show (0 : Int) < 2; omega) (by show (0 : Int) ≤ 0; omega)
  · obtain rfl := bool_of h1 rfl
    obtain rfl := bool_of h2 rfl
    refine sameW (alike_bool b b' w) ?_
    by_cases hb : b = b'
    · subst hb
      rw [show (b == b) = true by simp]
      exact (decide_eq_true (cmpV_low (by rw [rank_mk, rank_mk]) (by show (1 : Int) < 2; omega) (by show (0 : Int) ≤ 1; omega))).symm
    · rw [show (b == b') = false by simpa using hb]
      refine (decide_eq_false ?_).symm
      have hr : rankV (.mk 1 b n s m f q g) ≠ rankV (.mk 1 b' n' s' m' f' q' g') := by
        rw [rank_mk, rank_mk]
        cases b <;> cases b' <;> simp_all
      rw [cmpV_ne f1 hr]
      exact fun e => hr (cmpI_zero.1 e)
  · obtain rfl := num_of h1 rfl
    obtain rfl := num_of h2 rfl
    refine sameW (alike_num n n' w) ?_
    rw [cmpV, if_neg (by rw [rank_mk, rank_mk]; simp), if_pos rfl]
    show _ = decide (cmpI n n' = 0)
    by_cases h : n = n'
    · subst h; rw [decide_eq_true (cmpI_zero.2 rfl)]; simp
    · rw [decide_eq_false (fun e => h (cmpI_zero.1 e))]; simpa using h
  · obtain ⟨rfl, _⟩ := text_of h1 rfl
    obtain ⟨rfl, _⟩ := text_of h2 rfl
    refine sameW (alike_text s s' w) ?_
    rw [cmpV, if_neg (by rw [rank_mk, rank_mk]; simp), if_neg (by decide), if_pos rfl]
    show _ = decide (cmpS s.data.toList s'.data.toList = 0)
    by_cases h : s = s'
    · rw [decide_eq_true ((name_cmp s s').1 h)]; subst h; show (s.data == s.data) = true; simp
    · rw [decide_eq_false (fun e => h ((name_cmp s s').2 e))]
      show (s.data == s'.data) = false
      simp only [beq_eq_false_iff_ne, ne_eq]
      intro e
      exact h (by cases s; cases s'; simp_all)
  · obtain ⟨A, c, rfl, p1, p2, p3⟩ := list_of h1 rfl
    obtain ⟨B, c', rfl, q1, q2, q3⟩ := list_of h2 rfl
    refine alike_row4 _ _ _ _ _ _ _ w ((eq_rows f f' m m' A B c c' w p3 q3 (fun i hi => (f1.item (.inl rfl) hi).1) (fun i hi => (f2.item (.inl rfl) hi).1) ih p1 p2 q1 q2).mono fun e w' ⟨he, hw⟩ => ⟨he.trans (ret_b ?_), hw⟩)
    rw [cmpV, if_neg (by rw [rank_mk, rank_mk]; simp), if_neg (by decide), if_neg (by decide), if_pos (.inl rfl)]
    unfold rowV
    simp
    rfl
  · obtain ⟨A, c, rfl, p1, p2, p3⟩ := object_of h1 rfl
    obtain ⟨B, c', rfl, q1, q2, q3⟩ := object_of h2 rfl
    refine alike_row5 _ _ _ _ _ _ _ w ((eq_mem f f' g g' m m' A B c c' w (fun i hi => (p3 i hi).2) (fun i hi => (q3 i hi).2) (fun i hi => (f1.item (.inr rfl) hi).1) (fun i hi => (f2.item (.inr rfl) hi).1) ih p1 p2 q1 q2).mono fun e w' ⟨he, hw⟩ => ⟨he.trans (ret_b ?_), hw⟩)
    rw [cmpV, if_neg (by rw [rank_mk, rank_mk]; simp), if_neg (by decide), if_neg (by decide), if_pos (.inr rfl)]
    unfold rowV memC
    simp
    rfl
theorem alike_rec : ∀ t : VT, AlikeC t
  | .no => fun _ _ _ _ h => h.elim
  | .mk k b n s m f q g => alike_mk k b n s m f q g fun i => alike_rec (f i)
set_option maxHeartbeats 4000000 in
set_option maxRecDepth 100000 in
theorem Same_any (t u : VT) (v1 v2 : Value) (w : World) (h1 : JV w t v1) (h2 : JV w u v2) (st : Small t) (m1 : mayV t 0 = 0) (f2 : Fit u) (hT : TabU w) :
    Calls Tryd.prog 23 #[v1, v2] w fun e w' => e = .returned (.bool (decide (cmpV t u = 0))) ∧ Below w.heap.size w w' := by
  have M0 := may_any st h1 (fun x hx => hx) hT
  rw [m1] at M0
  have M1 := Lib.hid M0
  have C := Lib.hid (fun (W : World) (hb : Below w.heap.size w W) => alike_rec t u v1 v2 W (h1.below hb) (h2.below hb) ⟨0, m1⟩ f2)
  clear h1 h2 hT m1 M0
  go_enter Tryd.func23, Tryd.ntmps23
  go_wp2_with fail
  refine M1.out.mono ?_
  rintro e w1 ⟨rfl, l1⟩
  have L1 := Lib.hid l1
  clear l1
  go_wp2_with fail
  refine (C.out _ L1.out).mono ?_
  rintro e w2 ⟨rfl, l2⟩
  have L2 := Lib.hid (L1.out.trans (l2.mono L1.out.size))
  clear l2
  go_wp2_with fail
  go_ret
  exact ⟨rfl, L2.out⟩
end Go.Proofs.YtpmhefdalhohdaaDoor
