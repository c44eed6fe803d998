/- A value that is handed over by value. No program; no condition. -/
import Derived.Test.YtieknhhhcjdbnaaCkPlain
namespace Go.Proofs.Ytieknhhhcjdbnaa
open Go.RowKit
/-- A value handed over. -/
def vW (v : Vl) : Value := .agg #[.int .i64 v.1, .int .i64 v.2.1, .string ⟨v.2.2.toArray⟩]
end Go.Proofs.Ytieknhhhcjdbnaa
