/- HashHolds: both cases. -/
import Derived.Test.YtiiikahpmoifaaaDoorHHolds2
namespace Go.Proofs.YtiiikahpmoifaaaDoor
open Go.RowKit
theorem hashHolds_walk (r : Rc) (p : Pt) (t : Nat) (ht : t < 256) (w : World) (hm : MaskT w) :
    Calls Tryd.prog 6 #[.agg #[.int .i64 r.x0, .int .i64 r.y0, .int .i64 r.x1, .int .i64 r.y1], .agg #[.int .i64 p.x, .int .i64 p.y], .int .u8 (t : Nat)] w fun e w' => e = .returned (.bool true) ∧ Below w.heap.size w w' := by
  by_cases hr : MayR r
  · exact hashHolds_may r p t ht hr w hm
  · exact hashHolds_no r p t ht hr w hm
end Go.Proofs.YtiiikahpmoifaaaDoor
