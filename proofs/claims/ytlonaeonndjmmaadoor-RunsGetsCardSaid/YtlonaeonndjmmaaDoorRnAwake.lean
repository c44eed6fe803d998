/- Contract of layer 9's awake: the document's example holds. -/
import Derived.Test.YtlonaeonndjmmaaDoorRnPut
import Derived.Test.YtlonaeonndjmmaaDoorSame
namespace Go.Proofs.YtlonaeonndjmmaaDoor
open Go.RowKit
set_option linter.unusedVariables false
set_option linter.unusedSimpArgs false
set_option maxRecDepth 100000

theorem rn_ex : rf (runs [5, 5, 5]) = [2, 10] := by decide +kernel
theorem rnEx_in : ∀ z ∈ ([5, 5, 5] : List Int), In64 z := by
  intro z hz
  simp at hz
  unfold In64
  omega
theorem rnAwake_any (w : World) : Calls Tryd.prog 5 #[] w fun e w' => e = .returned (.bool true) ∧ Below w.heap.size w w' := by
  go_enter Tryd.func5, Tryd.ntmps5
  go_wp2_with fail
  refine (rnPut_any (some ⟨w.heap.size, 0, none⟩) 3 3 [5, 5, 5] _ (reads_blk (Blk.new w 2 #[.int .i64 5, .int .i64 5, .int .i64 5]) _ 3 _ (by simp) rfl rfl) rnEx_in (by omega)).mono ?_
  rw [rn_ex]
  rintro e w1 ⟨v, rfl, hown, hb⟩
  obtain ⟨A, c, rfl, _, _, hr⟩ := own_slice hown
  have hb1 : Below w.heap.size w w1 := ((Below.refl _ _).alloc (Nat.le_refl _) _).trans (hb.mono (by simp))
  clear hown hb
  go_wp2_with fail
  refine (same_true A _ 2 c 2 2 [2, 10] _ ((hr.alloc (Nat.le_refl _) _).more (by simp)) (reads_blk (Blk.new w1 5 #[.int .u8 2, .int .u8 10]) _ 2 _ (by simp) rfl rfl) (by omega)).mono ?_
  rintro e w2 ⟨rfl, hd⟩
  go_wp2_with fail
  go_ret
  exact ⟨rfl, hd.below (hb1.alloc hb1.size _)⟩
end Go.Proofs.YtlonaeonndjmmaaDoor
