/- What a function answers that hands out new bytes, opened; what reads goes on reading. -/
import Derived.Test.YtkopoepoinkpeaaDoorMem
namespace Go.Proofs.YtkopoepoinkpeaaDoor
open Go.RowKit
set_option linter.unusedVariables false
set_option linter.unusedSimpArgs false
set_option maxRecDepth 100000

theorem New.opened {w w' : World} {xs : List Value} {n : Nat} {e : Ending} (h : New w xs n e w') : ∃ A c, e = .returned (.slice A n c) ∧ n ≤ c ∧ Reads w' w'.heap.size 1 A n xs ∧ Below w.heap.size w w' := by
  obtain ⟨v, rfl, hown, hb⟩ := h
  obtain ⟨A, c, rfl, hc, _, hr⟩ := own_slice hown
  exact ⟨A, c, rfl, hc, hr, hb⟩
theorem Reads.next {w w' : World} {size n : Nat} {A : Option Addr} {xs : List Value} (h : Reads w w.heap.size size A n xs) (hb : Below w.heap.size w w') : Reads w' w'.heap.size size A n xs :=
  (h.below hb).more hb.size
end Go.Proofs.YtkopoepoinkpeaaDoor
