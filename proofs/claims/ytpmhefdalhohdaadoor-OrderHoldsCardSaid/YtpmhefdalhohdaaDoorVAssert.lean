/- Which kind an interface value has: the program's type switches. -/
import Derived.Test.YtpmhefdalhohdaaDoorVOuts
namespace Go.Proofs.YtpmhefdalhohdaaDoor
open Go.RowKit
set_option linter.unusedVariables false
@[go_sem] theorem as_nil_bool (W : World) : (Instr.typeAssert .nilIface 20 4 true).run Tryd.prog W = .ok (.tuple #[.bool false, .bool false]) W := by kernel_rfl
@[go_sem] theorem as_one_bool (W : World) (v : Value) : (Instr.typeAssert (.iface 4 v) 20 4 false).run Tryd.prog W = .ok v W := by kernel_rfl
@[go_sem] theorem as_bool_bool (W : World) (v : Value) : (Instr.typeAssert (.iface 4 v) 20 4 true).run Tryd.prog W = .ok (.tuple #[v, .bool true]) W := by kernel_rfl
@[go_sem] theorem as_num_bool (W : World) (v : Value) : (Instr.typeAssert (.iface 54 v) 20 4 true).run Tryd.prog W = .ok (.tuple #[.bool false, .bool false]) W := by kernel_rfl
@[go_sem] theorem as_str_bool (W : World) (v : Value) : (Instr.typeAssert (.iface 9 v) 20 4 true).run Tryd.prog W = .ok (.tuple #[.bool false, .bool false]) W := by kernel_rfl
@[go_sem] theorem as_list_bool (W : World) (v : Value) : (Instr.typeAssert (.iface 50 v) 20 4 true).run Tryd.prog W = .ok (.tuple #[.bool false, .bool false]) W := by kernel_rfl
@[go_sem] theorem as_obj_bool (W : World) (v : Value) : (Instr.typeAssert (.iface 56 v) 20 4 true).run Tryd.prog W = .ok (.tuple #[.bool false, .bool false]) W := by kernel_rfl
@[go_sem] theorem as_int_bool (W : World) (v : Value) : (Instr.typeAssert (.iface 3 v) 20 4 true).run Tryd.prog W = .ok (.tuple #[.bool false, .bool false]) W := by kernel_rfl
@[go_sem] theorem as_nil_num (W : World) : (Instr.typeAssert .nilIface 20 54 true).run Tryd.prog W = .ok (.tuple #[.int .i64 0, .bool false]) W := by kernel_rfl
@[go_sem] theorem as_one_num (W : World) (v : Value) : (Instr.typeAssert (.iface 54 v) 20 54 false).run Tryd.prog W = .ok v W := by kernel_rfl
@[go_sem] theorem as_bool_num (W : World) (v : Value) : (Instr.typeAssert (.iface 4 v) 20 54 true).run Tryd.prog W = .ok (.tuple #[.int .i64 0, .bool false]) W := by kernel_rfl
@[go_sem] theorem as_num_num (W : World) (v : Value) : (Instr.typeAssert (.iface 54 v) 20 54 true).run Tryd.prog W = .ok (.tuple #[v, .bool true]) W := by kernel_rfl
@[go_sem] theorem as_str_num (W : World) (v : Value) : (Instr.typeAssert (.iface 9 v) 20 54 true).run Tryd.prog W = .ok (.tuple #[.int .i64 0, .bool false]) W := by kernel_rfl
@[go_sem] theorem as_list_num (W : World) (v : Value) : (Instr.typeAssert (.iface 50 v) 20 54 true).run Tryd.prog W = .ok (.tuple #[.int .i64 0, .bool false]) W := by kernel_rfl
@[go_sem] theorem as_obj_num (W : World) (v : Value) : (Instr.typeAssert (.iface 56 v) 20 54 true).run Tryd.prog W = .ok (.tuple #[.int .i64 0, .bool false]) W := by kernel_rfl
@[go_sem] theorem as_int_num (W : World) (v : Value) : (Instr.typeAssert (.iface 3 v) 20 54 true).run Tryd.prog W = .ok (.tuple #[.int .i64 0, .bool false]) W := by kernel_rfl
@[go_sem] theorem as_nil_str (W : World) : (Instr.typeAssert .nilIface 20 9 true).run Tryd.prog W = .ok (.tuple #[.string ⟨#[]⟩, .bool false]) W := by kernel_rfl
@[go_sem] theorem as_one_str (W : World) (v : Value) : (Instr.typeAssert (.iface 9 v) 20 9 false).run Tryd.prog W = .ok v W := by kernel_rfl
@[go_sem] theorem as_bool_str (W : World) (v : Value) : (Instr.typeAssert (.iface 4 v) 20 9 true).run Tryd.prog W = .ok (.tuple #[.string ⟨#[]⟩, .bool false]) W := by kernel_rfl
@[go_sem] theorem as_num_str (W : World) (v : Value) : (Instr.typeAssert (.iface 54 v) 20 9 true).run Tryd.prog W = .ok (.tuple #[.string ⟨#[]⟩, .bool false]) W := by kernel_rfl
@[go_sem] theorem as_str_str (W : World) (v : Value) : (Instr.typeAssert (.iface 9 v) 20 9 true).run Tryd.prog W = .ok (.tuple #[v, .bool true]) W := by kernel_rfl
@[go_sem] theorem as_list_str (W : World) (v : Value) : (Instr.typeAssert (.iface 50 v) 20 9 true).run Tryd.prog W = .ok (.tuple #[.string ⟨#[]⟩, .bool false]) W := by kernel_rfl
@[go_sem] theorem as_obj_str (W : World) (v : Value) : (Instr.typeAssert (.iface 56 v) 20 9 true).run Tryd.prog W = .ok (.tuple #[.string ⟨#[]⟩, .bool false]) W := by kernel_rfl
@[go_sem] theorem as_int_str (W : World) (v : Value) : (Instr.typeAssert (.iface 3 v) 20 9 true).run Tryd.prog W = .ok (.tuple #[.string ⟨#[]⟩, .bool false]) W := by kernel_rfl
@[go_sem] theorem as_nil_list (W : World) : (Instr.typeAssert .nilIface 20 50 true).run Tryd.prog W = .ok (.tuple #[.slice none 0 0, .bool false]) W := by kernel_rfl
@[go_sem] theorem as_one_list (W : World) (v : Value) : (Instr.typeAssert (.iface 50 v) 20 50 false).run Tryd.prog W = .ok v W := by kernel_rfl
@[go_sem] theorem as_bool_list (W : World) (v : Value) : (Instr.typeAssert (.iface 4 v) 20 50 true).run Tryd.prog W = .ok (.tuple #[.slice none 0 0, .bool false]) W := by kernel_rfl
@[go_sem] theorem as_num_list (W : World) (v : Value) : (Instr.typeAssert (.iface 54 v) 20 50 true).run Tryd.prog W = .ok (.tuple #[.slice none 0 0, .bool false]) W := by kernel_rfl
@[go_sem] theorem as_str_list (W : World) (v : Value) : (Instr.typeAssert (.iface 9 v) 20 50 true).run Tryd.prog W = .ok (.tuple #[.slice none 0 0, .bool false]) W := by kernel_rfl
@[go_sem] theorem as_list_list (W : World) (v : Value) : (Instr.typeAssert (.iface 50 v) 20 50 true).run Tryd.prog W = .ok (.tuple #[v, .bool true]) W := by kernel_rfl
@[go_sem] theorem as_obj_list (W : World) (v : Value) : (Instr.typeAssert (.iface 56 v) 20 50 true).run Tryd.prog W = .ok (.tuple #[.slice none 0 0, .bool false]) W := by kernel_rfl
@[go_sem] theorem as_int_list (W : World) (v : Value) : (Instr.typeAssert (.iface 3 v) 20 50 true).run Tryd.prog W = .ok (.tuple #[.slice none 0 0, .bool false]) W := by kernel_rfl
@[go_sem] theorem as_nil_obj (W : World) : (Instr.typeAssert .nilIface 20 56 true).run Tryd.prog W = .ok (.tuple #[.slice none 0 0, .bool false]) W := by kernel_rfl
@[go_sem] theorem as_one_obj (W : World) (v : Value) : (Instr.typeAssert (.iface 56 v) 20 56 false).run Tryd.prog W = .ok v W := by kernel_rfl
@[go_sem] theorem as_bool_obj (W : World) (v : Value) : (Instr.typeAssert (.iface 4 v) 20 56 true).run Tryd.prog W = .ok (.tuple #[.slice none 0 0, .bool false]) W := by kernel_rfl
@[go_sem] theorem as_num_obj (W : World) (v : Value) : (Instr.typeAssert (.iface 54 v) 20 56 true).run Tryd.prog W = .ok (.tuple #[.slice none 0 0, .bool false]) W := by kernel_rfl
@[go_sem] theorem as_str_obj (W : World) (v : Value) : (Instr.typeAssert (.iface 9 v) 20 56 true).run Tryd.prog W = .ok (.tuple #[.slice none 0 0, .bool false]) W := by kernel_rfl
@[go_sem] theorem as_list_obj (W : World) (v : Value) : (Instr.typeAssert (.iface 50 v) 20 56 true).run Tryd.prog W = .ok (.tuple #[.slice none 0 0, .bool false]) W := by kernel_rfl
@[go_sem] theorem as_obj_obj (W : World) (v : Value) : (Instr.typeAssert (.iface 56 v) 20 56 true).run Tryd.prog W = .ok (.tuple #[v, .bool true]) W := by kernel_rfl
@[go_sem] theorem as_int_obj (W : World) (v : Value) : (Instr.typeAssert (.iface 3 v) 20 56 true).run Tryd.prog W = .ok (.tuple #[.slice none 0 0, .bool false]) W := by kernel_rfl
end Go.Proofs.YtpmhefdalhohdaaDoor
