/- A list of two byte texts, laid in new memory; a width and places packed in it. No condition. -/
import Derived.Test.YtppeagjklndidaaConcat
import Derived.Test.YtppeagjklndidaaPackOk
namespace Go.Proofs.Ytppeagjklndidaa
open Go.RowKit
set_option linter.unusedVariables false
set_option linter.unusedSimpArgs false
set_option maxRecDepth 100000

theorem two_parts (w : World) (t : TypeId) (v1 v2 : Value) (l1 l2 : List Nat) (h1 : IsB w v1 l1) (h2 : IsB w v2 l2) :
    LL (w.alloc (.cells #[v1, v2] t)) (some ⟨w.heap.size, 0, none⟩) [l1, l2] := by
  have hb : Below w.heap.size w (w.alloc (.cells #[v1, v2] t)) := (Below.refl _ _).alloc (Nat.le_refl _) _
  exact ⟨[v1, v2], reads_blk (Blk.new w t #[v1, v2]) _ 2 _ (by simp) rfl rfl, h1.next hb, h2.next hb, trivial⟩
/-- What stands behind a list: the width of the places, and these, packed in it. -/
def pcB (P : List Nat) : List Nat := wd P :: packB (wd P) P
theorem pcB_flat (P : List Nat) : [[wd P], packB (wd P) P].flatten = pcB P := by simp [pcB]
end Go.Proofs.Ytppeagjklndidaa
