/- Contract of layer 11's awake: the document's example holds. -/
import Derived.Test.YtppeagjklndidaaDcPut
import Derived.Test.YtppeagjklndidaaSame
namespace Go.Proofs.Ytppeagjklndidaa
open Go.RowKit
set_option linter.unusedVariables false
set_option linter.unusedSimpArgs false
set_option maxRecDepth 100000

theorem dc_ex : dc [7, 5, 7] = [2, 10, 1, 1, 5] := by decide +kernel
theorem ex_in : ∀ z ∈ ([7, 5, 7] : List Int), In64 z := by
  intro z hz
  simp at hz
  unfold In64
  omega
theorem awake_any (w : World) : Calls Try.prog 7 #[] w fun e w' => e = .returned (.bool true) ∧ Below w.heap.size w w' := by
  go_enter Try.func7, Try.ntmps7
  go_wp2_with fail
  refine (dcPut_any (some ⟨w.heap.size, 0, none⟩) 3 3 [7, 5, 7] _ (reads_blk (Blk.new w 2 #[.int .i64 7, .int .i64 5, .int .i64 7]) _ 3 _ (by simp) rfl rfl) ex_in (by omega)).mono ?_
  rw [dc_ex]
  rintro e w1 ⟨v, rfl, hown, hb⟩
  obtain ⟨A, c, rfl, _, _, hr⟩ := own_slice hown
  have hb1 : Below w.heap.size w w1 := ((Below.refl _ _).alloc (Nat.le_refl _) _).trans (hb.mono (by simp))
  clear hown hb
  go_wp2_with fail
  refine (same_true A _ 5 c 5 5 [2, 10, 1, 1, 5] _ ((hr.alloc (Nat.le_refl _) _).more (by simp)) (reads_blk (Blk.new w1 5 #[.int .u8 2, .int .u8 10, .int .u8 1, .int .u8 1, .int .u8 5]) _ 5 _ (by simp) rfl rfl) (by omega)).mono ?_
  rintro e w2 ⟨rfl, hd⟩
  go_wp2_with fail
  go_ret
  exact ⟨rfl, hd.below (hb1.alloc hb1.size _)⟩
end Go.Proofs.Ytppeagjklndidaa
