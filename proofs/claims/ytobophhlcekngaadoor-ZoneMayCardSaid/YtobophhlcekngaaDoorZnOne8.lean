/- Contract of the document's one of layer 17, whatever the operator. -/
import Derived.Test.YtobophhlcekngaaDoorZnO8a
import Derived.Test.YtobophhlcekngaaDoorZnO8b
import Derived.Test.YtobophhlcekngaaDoorZnO8c
import Derived.Test.YtobophhlcekngaaDoorZnO8d
import Derived.Test.YtobophhlcekngaaDoorZnO8e
import Derived.Test.YtobophhlcekngaaDoorZnO8f
import Derived.Test.YtobophhlcekngaaDoorZnOne7
import Derived.Test.YtobophhlcekngaaDoorZnMayC
namespace Go.Proofs.YtobophhlcekngaaDoor
open Go.RowKit
set_option linter.unusedVariables false
set_option linter.unusedSimpArgs false
set_option maxRecDepth 100000

theorem one8 {col : Int} {A A' : Option Addr} {c n c' : Nat} {w : World} (a b : Vl) (z : Zn) (hr : Reads w w.heap.size 3 A 2 (vs [a, b])) :
    Calls Tryd.prog 15 #[.agg #[.int .i64 8, .int .i64 col, .slice A 2 c, .slice A' n c'], zW z] w fun e w' => e = .returned (.tuple #[.bool (oneZ 8 [a, b] z).1, .bool (oneZ 8 [a, b] z).2]) ∧ Below w.heap.size w w' := by
  obtain ⟨nl, so, mn, mx⟩ := z
  cases h1 : decide (cmpV a b ≤ 0) <;> cases h2 : decide (cmpV a mx ≤ 0) <;> cases h4 : decide (cmpV mn a < 0)
  · exact one8_a a b nl so mn mx hr h1 h4
  · exact one8_b a b nl so mn mx hr h1 h4
  · exact one8_a a b nl so mn mx hr h1 h4
  · exact one8_b a b nl so mn mx hr h1 h4
  · exact one8_c a b nl so mn mx hr h1 h2 h4
  · exact one8_d a b nl so mn mx hr h1 h2 h4
  · exact one8_e a b nl so mn mx hr h1 h2 h4
  · exact one8_f a b nl so mn mx hr h1 h2 h4
theorem one_of' {α : Type} {l : List α} (h : l.length = 1) : ∃ a, l = [a] := by
  match l, h with
  | [a], _ => exact ⟨a, rfl⟩
theorem two_of' {α : Type} {l : List α} (h : l.length = 2) : ∃ a b, l = [a, b] := by
  match l, h with
  | [a, b], _ => exact ⟨a, b, rfl⟩
/-- The document's one answers what may be. -/
theorem oneC : OneC := by
  intro W op col A A' c n c' vals z hr hop hf
  obtain ⟨hf1, hf2⟩ := hf
  have h : (op = 1 ∨ op = 2) ∧ vals.length = 1 ∨ (3 ≤ op ∧ op ≤ 6) ∧ vals.length = 1 ∨ op = 7 ∧ vals.length ≤ 256 ∨ op = 8 ∧ vals.length = 2 := by omega
  rcases h with ⟨h, hl⟩ | ⟨h, hl⟩ | ⟨rfl, hl⟩ | ⟨rfl, hl⟩
  · obtain ⟨a, rfl⟩ := one_of' hl
    exact one12 a z hr h
  · obtain ⟨a, rfl⟩ := one_of' hl
    exact one36 a z hr h
  · exact one7 vals vals.length z hr (by omega)
  · obtain ⟨a, b, rfl⟩ := two_of' hl
    exact one8 a b z hr
end Go.Proofs.YtobophhlcekngaaDoor
