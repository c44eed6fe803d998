/- A plain fact: the first short number is read, whatever stands behind it. No program. -/
import Derived.Test.YtpjmenaejfdiaaaDoorPlRead
namespace Go.Proofs.YtpjmenaejfdiaaaDoor
open Go.RowKit
set_option linter.unusedVariables false
set_option linter.unusedSimpArgs false
set_option maxRecDepth 100000

/-- The first number is read, whatever stands behind it. -/
theorem first_read (z : Int) (hz : In64 z) (rest : List Nat) : vst (vb (zg z) ++ rest) 1 = ((vb (zg z)).length, none) ∧ zagI (vv (vb (zg z) ++ rest) 0 : Int) = z := by
  obtain ⟨h1, h2⟩ := vst_put [z] rest (by simpa using hz) 1 (by simp)
  rw [pl_one] at h1 h2
  simp only [List.take_succ_cons, List.take_zero, pl_one] at h1 h2
  refine ⟨h1, ?_⟩
  have e : getL (vb (zg z) ++ rest) 1 = [zagI (vv (vb (zg z) ++ rest) 0 : Int)] := by simp [getL]
  rw [e] at h2
  injection h2
end Go.Proofs.YtpjmenaejfdiaaaDoor
