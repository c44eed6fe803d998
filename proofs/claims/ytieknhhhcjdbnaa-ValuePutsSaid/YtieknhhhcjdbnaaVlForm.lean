/- Values, schemas and rows as plain bytes; what is wrong with a schema, with a row. No condition. -/
import Derived.Test.YtieknhhhcjdbnaaCkPlain
import Derived.Test.YtieknhhhcjdbnaaTxPlain
namespace Go.Proofs.Ytieknhhhcjdbnaa
open Go.RowKit
set_option linter.unusedVariables false
set_option linter.unusedSimpArgs false
set_option maxRecDepth 100000

/-- A column: its kind, whether it may have nothing, its way. -/
abbrev Cl := Int × Bool × Int
/-- What is wrong with a schema: an error's number. -/
def scE (s : List Cl) : Int := if s.length = 0 ∨ 64 < s.length then 12 else if ∃ c ∈ s, c.1 ≠ 1 ∧ c.1 ≠ 2 then 11 else if ∃ c ∈ s, c.2.2 ≠ -1 ∧ ofW c.2.2 c.1 = false then 1 else 0
/-- What is wrong with a value of a column; with a row. -/
def colE (c : Cl) (v : Vl) : Int := if rgt c.1 v = false ∨ v.1 = 0 ∧ c.2.1 = false then 11 else if 65536 < v.2.2.length then 12 else 0
def colsE : List Cl → List Vl → Int
  | c :: s, v :: r => if colE c v ≠ 0 then colE c v else colsE s r
  | _, _ => 0
def rwE (s : List Cl) (row : List Vl) : Int := if row.length ≠ s.length then 1 else colsE s row
/-- The forms. -/
def vB (v : Vl) : List Nat := (v.1 % 256).toNat :: (if v.1 = 1 then vb (zg v.2.1) else if v.1 = 2 then blbT v.2.2 else [])
def cB (c : Cl) : List Nat := [(c.1 % 256).toNat, if c.2.1 = true then 1 else 0, ((c.2.2 + 1) % 256).toNat]
def scB (s : List Cl) : List Nat := s.length % 256 :: s.flatMap cB
def rowB (r : List Vl) : List Nat := r.flatMap vB
def rwB (rows : List (List Vl)) : List Nat := vb rows.length ++ rows.flatMap rowB
theorem rowB_cons (v : Vl) (r : List Vl) : rowB (v :: r) = vB v ++ rowB r := by simp [rowB]
theorem rowB_append (a b : List Vl) : rowB (a ++ b) = rowB a ++ rowB b := by simp [rowB]
end Go.Proofs.Ytieknhhhcjdbnaa
