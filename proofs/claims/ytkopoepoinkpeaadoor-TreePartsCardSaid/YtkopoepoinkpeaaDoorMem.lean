/- Bytes in memory, over this program: a byte slice that is made; what a function answers that hands out new bytes. No condition. -/
import Derived.Deep.QuietTactic
import Derived.BigQuiet
import Derived.Test.YtkopoepoinkpeaaDoorWords
import Derived.Test.YtkopoepoinkpeaaDoorChecked
namespace Go.Proofs.YtkopoepoinkpeaaDoor
open Go.RowKit
set_option linter.unusedVariables false
set_option linter.unusedSimpArgs false
set_option maxRecDepth 100000

theorem info_u8 : (Tryd.prog.info? 5).map (fun i => (i.zero, i.size, i.bytes)) = some (some (.int .u8 0), 1, 1) := by kernel_rfl
/-- What a function answers that puts bytes behind bytes: new memory that holds 'xs'. -/
def New (w : World) (xs : List Value) (n : Nat) (e : Ending) (w' : World) : Prop := ∃ v, e = .returned v ∧ w'.ownsRow w.heap.size 5 1 v n xs ∧ Below w.heap.size w w'
/-- Bytes in new memory, and the number of an error. -/
def NewE (w : World) (l : List Nat) (x : Nat) (e : Ending) (w' : World) : Prop :=
  ∃ v, e = .returned (.tuple #[v, .int .i64 (x : Int)]) ∧ w'.ownsRow w.heap.size 5 1 v l.length (bs l) ∧ Below w.heap.size w w'
end Go.Proofs.YtkopoepoinkpeaaDoor
