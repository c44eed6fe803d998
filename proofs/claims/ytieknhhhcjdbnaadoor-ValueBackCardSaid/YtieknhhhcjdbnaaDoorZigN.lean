/- Contract of package num's Zig, told by natural numbers. -/
import Derived.Test.YtieknhhhcjdbnaaDoorJ7
import Derived.Test.YtieknhhhcjdbnaaDoorZigF
namespace Go.Proofs.YtieknhhhcjdbnaaDoor
open Go.RowKit
set_option linter.unusedVariables false
set_option linter.unusedSimpArgs false
set_option maxRecDepth 100000

theorem zigN_any (z : Int) (w : World) (h : In64 z) : Calls Tryd.prog 63 #[.int .i64 z] w fun e w' => e = .returned (.int .u64 (zg z : Int)) ∧ w = w' := by
  rw [← (zg_int h).1]; exact zig_any z w h.1 h.2
end Go.Proofs.YtieknhhhcjdbnaaDoor
