/- What goes into one byte. No condition. -/
import Derived.WalkKit
namespace Go.Proofs.YtieknhhhcjdbnaaDoor
open Go.RowKit
set_option linter.unusedVariables false
set_option linter.unusedSimpArgs false
set_option maxRecDepth 100000

theorem u8_mod (x : Int) : IntKind.u8.wrap x = ((x % 256).toNat : Int) := by
  have : IntKind.u8.wrap x = x % 256 := by simp [IntKind.wrap, IntKind.bits, IntKind.signed]
  rw [this, Int.toNat_of_nonneg (by omega)]
theorem i64_mod (x : Int) : IntKind.i64.wrap x % 256 = x % 256 := by
  simp only [IntKind.wrap, IntKind.bits, IntKind.signed, Int.bmod]
  first
    | omega
    | (split <;> omega)
    | (simp; omega)
    | (simp; split <;> omega)
end Go.Proofs.YtieknhhhcjdbnaaDoor
