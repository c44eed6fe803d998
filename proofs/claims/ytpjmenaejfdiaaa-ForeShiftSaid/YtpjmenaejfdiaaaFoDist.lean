/- Plain arithmetic: a difference without a sign. No program. -/
import Derived.Test.YtpjmenaejfdiaaaFoPlain
import Derived.Test.YtpjmenaejfdiaaaArith64
namespace Go.Proofs.Ytpjmenaejfdiaaa
open Go.RowKit
set_option linter.unusedVariables false
set_option linter.unusedSimpArgs false

theorem dist_eq {y z : Int} (hy : In64 y) (hz : In64 z) (h : y ≤ z) : IntKind.u64.wrap (IntKind.u64.wrap z - IntKind.u64.wrap y) = ((z - y).toNat : Int) := by
  rw [u64w, u64w, u64w]
  unfold In64 at hy hz
  omega
end Go.Proofs.Ytpjmenaejfdiaaa
