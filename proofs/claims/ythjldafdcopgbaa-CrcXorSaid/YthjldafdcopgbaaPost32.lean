/- What the last step of a row is told of an integer of 32 bits that came in. -/
import Derived.Test.YthjldafdcopgbaaPost
namespace Go.Proofs.Ythjldafdcopgbaa
open Go.RowKit
theorem u32_of {a : Int} (w : (Lit.int .u32 a).wf = true) : ∃ v : Nat, a = (v : Int) ∧ v < 4294967296 := by
  have hx : 0 ≤ a ∧ a ≤ 4294967295 := by simpa [Lit.wf, IntKind.min, IntKind.max, IntKind.signed, IntKind.bits] using w
  obtain ⟨v, rfl⟩ := Int.eq_ofNat_of_zero_le hx.1
  exact ⟨v, rfl, by omega⟩
end Go.Proofs.Ythjldafdcopgbaa
