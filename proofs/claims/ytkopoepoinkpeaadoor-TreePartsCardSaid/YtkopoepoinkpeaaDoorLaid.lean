/- A row that was laid last reads as its cells, whatever is frozen of it. No program. -/
import Derived.Test.YtkopoepoinkpeaaDoorWords
import Derived.Lib.SlBytesConst
namespace Go.Proofs.YtkopoepoinkpeaaDoor
open Go.RowKit

/-- A row that was laid last reads as its cells, whatever is frozen of it. -/
theorem reads_laid (w : World) (cs : Array Value) (t : TypeId) (fr : Nat × Nat) (B n : Nat) (xs : List Value) (hB : w.heap.size < B) (hn : xs.length = n) (hx : cs.toList.take n = xs) :
    Reads (w.alloc (.cells cs t fr)) B 1 (some ⟨w.heap.size, 0, none⟩) n xs := by
  refine ⟨by omega, fun _ => ⟨_, rfl, hB, fun j u hu => ?_⟩⟩
  rw [plain_add, Nat.zero_add, cell_of_row _ _ j cs t fr (heap_alloc_new w _)]
  subst hx
  rw [List.getElem?_take] at hu
  split at hu
  · simpa using hu
  · cases hu
end Go.Proofs.YtkopoepoinkpeaaDoor
