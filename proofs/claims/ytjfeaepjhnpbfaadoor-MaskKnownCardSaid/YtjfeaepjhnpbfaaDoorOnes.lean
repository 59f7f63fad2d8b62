/- math/bits.OnesCount16, over this program. -/
import Derived.Test.YtjfeaepjhnpbfaaDoorChecked
import Derived.Lib.Walk
import Derived.Lib.BitFns
import Derived.Laws.BitsAllLaws
namespace Go.Proofs.YtjfeaepjhnpbfaaDoor

set_option maxRecDepth 100000 in
set_option maxHeartbeats 1000000 in
theorem ones_walk (m x y : Int) (hx : m / 256 = x) (hy : bits BinOp.and IntKind.u16 m 255 = y) (x0 : 0 ≤ x) (x1 : x ≤ 255) (y0 : 0 ≤ y) (y1 : y ≤ 255) (s : Int) (hs : (Lib.pop8 x + Lib.pop8 y) = s) (s0 : 0 ≤ s) (s1 : s ≤ 16) (w : World) :
    Calls Tryd.prog 27 #[.int .u16 m] w fun e w' => e = .returned (.int .i64 s) ∧ w' = w.drew := by
  go_enter Tryd.func27, Tryd.ntmps27
  go_wp2
  go_region
  all_goals go_wp2
  all_goals go_ret
  all_goals refine ⟨congrArg Ending.returned (congrArg (Value.int IntKind.i64) ?_), rfl⟩
  all_goals (rw [IntKind.wrap_u8, IntKind.wrap_i64]; omega)
end Go.Proofs.YtjfeaepjhnpbfaaDoor
