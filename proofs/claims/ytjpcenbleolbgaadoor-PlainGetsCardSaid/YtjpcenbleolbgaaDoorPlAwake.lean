/- Contract of layer 8's awake: the document's example holds. -/
import Derived.Test.YtjpcenbleolbgaaDoorPlPut
import Derived.Test.YtjpcenbleolbgaaDoorSame
namespace Go.Proofs.YtjpcenbleolbgaaDoor
open Go.RowKit
set_option linter.unusedVariables false
set_option linter.unusedSimpArgs false
set_option maxRecDepth 100000

theorem pl_ex : pl [-1, 300] = [1, 216, 4] := by decide +kernel
theorem ex_in : ∀ z ∈ ([-1, 300] : List Int), In64 z := by
  intro z hz
  simp at hz
  unfold In64
  omega
theorem awake_any (w : World) : Calls Tryd.prog 5 #[] w fun e w' => e = .returned (.bool true) ∧ Below w.heap.size w w' := by
  go_enter Tryd.func5, Tryd.ntmps5
  go_wp2_with fail
  refine (plPut_any (some ⟨w.heap.size, 0, none⟩) 2 2 [-1, 300] _ (reads_blk (Blk.new w 2 #[.int .i64 (-1), .int .i64 300]) _ 2 _ (by simp) rfl rfl) ex_in (by omega)).mono ?_
  rw [pl_ex]
  rintro e w1 ⟨v, rfl, hown, hb⟩
  obtain ⟨A, c, rfl, _, _, hr⟩ := own_slice hown
  have hb1 : Below w.heap.size w w1 := ((Below.refl _ _).alloc (Nat.le_refl _) _).trans (hb.mono (by simp))
  clear hown hb
  go_wp2_with fail
  refine (same_true A _ 3 c 3 3 [1, 216, 4] _ ((hr.alloc (Nat.le_refl _) _).more (by simp)) (reads_blk (Blk.new w1 5 #[.int .u8 1, .int .u8 216, .int .u8 4]) _ 3 _ (by simp) rfl rfl) (by omega)).mono ?_
  rintro e w2 ⟨rfl, hd⟩
  go_wp2_with fail
  go_ret
  exact ⟨rfl, hd.below (hb1.alloc hb1.size _)⟩
end Go.Proofs.YtjpcenbleolbgaaDoor
