/- Texts as bytes in new memory, over this program. No condition. -/
import Derived.Laws.IdiomStrings
import Derived.Test.YtieknhhhcjdbnaaDoorLaid
import Derived.Test.YtieknhhhcjdbnaaDoorTxPlain
import Derived.Test.YtieknhhhcjdbnaaDoorJ20
namespace Go.Proofs.YtieknhhhcjdbnaaDoor
open Go.RowKit
set_option linter.unusedVariables false
set_option linter.unusedSimpArgs false
set_option maxRecDepth 100000

/-- The room of the new bytes, and the world behind them. -/
def convC (W : World) (s : Tx) : Nat := grownCap W s.length 0 5
def convW (W : World) (s : Tx) : World := W.drew.alloc (.cells (bytesRow ⟨s.toArray⟩ (convC W s)) 5 ((bytesRow ⟨s.toArray⟩ (convC W s)).size, (bytesRow ⟨s.toArray⟩ (convC W s)).size + 1))
theorem conv_is (s : Tx) (W : World) : (convert 9 22 (.string ⟨s.toArray⟩)).run Tryd.prog W = .ok (.slice (some ⟨W.heap.size, 0, none⟩) s.length (convC W s)) (convW W s) := by
  have h := run_bytes_of_string (P := Tryd.prog) W 9 22 5 ⟨s.toArray⟩ Tryd.underlying9 Tryd.underlying22 Tryd.underlying5
  rw [size_enc] at h
  exact h
theorem conv_below (W : World) (s : Tx) : Below W.heap.size W (convW W s) := (Below.drew (Below.refl W.heap.size W)).alloc (Nat.le_refl _) _
theorem conv_reads (W : World) (s : Tx) : Reads (convW W s) (convW W s).heap.size 1 (some ⟨W.heap.size, 0, none⟩) s.length (bs (nb s)) := by
  refine reads_laid W.drew _ _ _ _ _ _ ?_ (by rw [bs_length, nb_length]) ?_
  · unfold convW; simp
  · unfold bytesRow
    rw [Array.toList_append, List.take_append_of_le_length (by simp), List.take_of_length_le (by simp)]
    simp [bs, nb]
theorem blob_nb (s : Tx) : vb (nb s).length ++ nb s = blbT s := by unfold blbT; rw [nb_length]
end Go.Proofs.YtieknhhhcjdbnaaDoor
