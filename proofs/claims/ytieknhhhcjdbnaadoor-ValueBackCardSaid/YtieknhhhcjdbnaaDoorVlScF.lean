/- A schema's form, column by column. No program; no condition. -/
import Derived.Test.YtieknhhhcjdbnaaDoorJ12
namespace Go.Proofs.YtieknhhhcjdbnaaDoor
open Go.RowKit
set_option linter.unusedVariables false
set_option linter.unusedSimpArgs false
set_option maxRecDepth 100000

/-- A schema's form behind so many columns. -/
def scF (n : Nat) (l : List Cl) : List Nat := n % 256 :: l.flatMap cB
theorem scF_all (s : List Cl) : scB s = scF s.length s := rfl
theorem cB_length (c : Cl) : (cB c).length = 3 := rfl
theorem scF_length (n : Nat) : ∀ l : List Cl, (scF n l).length = 3 * l.length + 1
  | [] => rfl
  | c :: l => by
    have := scF_length n l
    simp only [scF, List.flatMap_cons, List.length_cons, List.length_append, cB_length] at this ⊢
    omega
theorem scF_snoc (n : Nat) (l : List Cl) (c : Cl) : scF n (l ++ [c]) = scF n l ++ cB c := by simp [scF]
end Go.Proofs.YtieknhhhcjdbnaaDoor
