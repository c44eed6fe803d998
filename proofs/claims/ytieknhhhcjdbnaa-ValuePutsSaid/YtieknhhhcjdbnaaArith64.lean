/- Plain arithmetic of 64 bits. No program. -/
import Derived.Test.YtieknhhhcjdbnaaPlPlain
namespace Go.Proofs.Ytieknhhhcjdbnaa
open Go.RowKit
set_option linter.unusedVariables false
set_option linter.unusedSimpArgs false

theorem u64w (n : Int) : IntKind.u64.wrap n = n % 18446744073709551616 := by simp [IntKind.wrap, IntKind.bits, IntKind.signed]
theorem w64 (n : Int) : wrap64 n = (n + 9223372036854775808) % 18446744073709551616 - 9223372036854775808 := by unfold wrap64; rfl
theorem w64_in (n : Int) : In64 (wrap64 n) := by rw [w64]; unfold In64; omega
theorem w64_id {n : Int} (h : In64 n) : wrap64 n = n := by unfold In64 at h; rw [w64]; omega
end Go.Proofs.Ytieknhhhcjdbnaa
