/- The document's Zig. -/
import Derived.Test.YtppeagjklndidaaZigP
import Derived.Test.YtppeagjklndidaaMem
namespace Go.Proofs.Ytppeagjklndidaa
open Go.RowKit
set_option linter.unusedVariables false
set_option linter.unusedSimpArgs false
set_option maxRecDepth 100000

theorem refZig_any (n : Int) (w : World) (h1 : -9223372036854775808 ≤ n) (h2 : n ≤ 9223372036854775807) : Calls Try.prog 28 #[.int .i64 n] w fun e w' => e = .returned (.int .u64 (zigI n)) ∧ w = w' := by
  by_cases h : 0 ≤ n
  · have HZ := Lib.hid (show 2 * n = zigI n by unfold zigI; rw [if_pos h])
    go_enter Try.func28, Try.ntmps28
    go_wp2_with fail
    go_ret
    exact ⟨ret_of (congrArg (Value.int .u64) HZ.out), rfl⟩
  · go_enter Try.func28, Try.ntmps28
    go_wp2_with fail
    go_ret
    refine ⟨ret_of (congrArg (Value.int .u64) ?_), rfl⟩
    unfold zigI
    rw [if_neg (by omega)]
    omega
end Go.Proofs.Ytppeagjklndidaa
