/- What a digest's type is. No condition. -/
import Derived.Test.YtkopoepoinkpeaaDoorMem
namespace Go.Proofs.YtkopoepoinkpeaaDoor
open Go.RowKit
set_option linter.unusedVariables false
set_option linter.unusedSimpArgs false
set_option maxRecDepth 100000

theorem info_hash : (Tryd.prog.info? 31).map (fun i => (i.zero, i.size)) = some (some (.agg (Array.replicate 32 (.int .u8 0))), 32) := by kernel_rfl
theorem agg_u8 (W : World) : (isAgg 5).run Tryd.prog W = .ok false W := by simp [isAgg, run_underlying Tryd.underlying5]
theorem sizeS_u8 (W : World) : (Go.sizeOf 5).run Tryd.prog W = .ok 1 W := by
  obtain ⟨i0, hi0, hz0, hz1, hz2⟩ := info_parts info_u8
  simp [Go.sizeOf, typeInfo, hi0, hz1]
end Go.Proofs.YtkopoepoinkpeaaDoor
