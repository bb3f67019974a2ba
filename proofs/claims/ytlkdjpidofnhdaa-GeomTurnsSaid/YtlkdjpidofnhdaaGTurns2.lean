/- GeomTurns: for an argument of four points. -/
import Derived.Test.YtlkdjpidofnhdaaGTurns
import Derived.Test.YtlkdjpidofnhdaaGArgs2
namespace Go.Proofs.Ytlkdjpidofnhdaa
open Go.RowKit
set_option linter.unusedVariables false

theorem geomTurns_walk (q : Q4) (w : World) : Calls Try.prog 6 #[.agg #[.int .i64 q.a.x, .int .i64 q.a.y, .int .i64 q.b.x, .int .i64 q.b.y, .int .i64 q.c.x, .int .i64 q.c.y, .int .i64 q.d.x, .int .i64 q.d.y]] w fun e w' => e = .returned (.bool true) ∧ Below w.heap.size w w' := geomTurns_core q.a q.b q.c q.d w
end Go.Proofs.Ytlkdjpidofnhdaa
