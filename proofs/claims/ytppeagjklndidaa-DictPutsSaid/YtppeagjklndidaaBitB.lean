/- Plain facts on a number's bits. No program. -/
import Derived.Test.YtppeagjklndidaaDigits
import Derived.Test.YtppeagjklndidaaWords
namespace Go.Proofs.Ytppeagjklndidaa
open Go.RowKit
set_option linter.unusedVariables false
set_option linter.unusedSimpArgs false
set_option maxRecDepth 100000

def bitB (v k : Nat) : Bool := decide (v / 2 ^ k % 2 = 1)
theorem bitB_digit (w : Nat) (l : List Nat) (h : ∀ a ∈ l, a < 2 ^ w) (i k v : Nat) (hi : l[i]? = some v) (hk : k < w) : bitB v k = bitB (pk w l) (i * w + k) := by
  obtain ⟨hl, rfl⟩ := List.getElem?_eq_some_iff.1 hi
  unfold bitB
  rw [Nat.mul_comm i w, pk_bit w l h i k hl hk]
theorem bitB_val (V j : Nat) : V / 2 ^ j % 2 = if bitB V j = true then 1 else 0 := by
  unfold bitB
  by_cases h : V / 2 ^ j % 2 = 1
  · simp [h]
  · simp [h]; omega
end Go.Proofs.Ytppeagjklndidaa
