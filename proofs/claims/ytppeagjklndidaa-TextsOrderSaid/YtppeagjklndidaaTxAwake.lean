/- Contract of layer 13's awake: the document's example holds. -/
import Derived.Test.YtppeagjklndidaaTxPut
import Derived.Test.YtppeagjklndidaaSame
namespace Go.Proofs.Ytppeagjklndidaa
open Go.RowKit
set_option linter.unusedVariables false
set_option linter.unusedSimpArgs false
set_option maxRecDepth 100000

theorem txf_ex : txf [[98], [97], [98]] = [2, 1, 97, 1, 98, 1, 5] := by decide +kernel
theorem awakeT_any (w : World) : Calls Try.prog 16 #[] w fun e w' => e = .returned (.bool true) ∧ Below w.heap.size w w' := by
  go_enter Try.func16, Try.ntmps16
  go_wp2_with fail
  refine (txPut_any (some ⟨w.heap.size, 0, none⟩) 3 3 [[98], [97], [98]] _ (reads_blk (Blk.new w 9 #[.string ⟨#[98]⟩, .string ⟨#[97]⟩, .string ⟨#[98]⟩]) _ 3 _ (by simp) rfl rfl) (by omega) (by simp)).mono ?_
  rw [txf_ex]
  rintro e w1 ⟨v, rfl, hown, hb⟩
  obtain ⟨A, c, rfl, _, _, hr⟩ := own_slice hown
  have hb1 : Below w.heap.size w w1 := ((Below.refl _ _).alloc (Nat.le_refl _) _).trans (hb.mono (by simp))
  clear hown hb
  go_wp2_with fail
  refine (same_true A _ 7 c 7 7 [2, 1, 97, 1, 98, 1, 5] _ ((hr.alloc (Nat.le_refl _) _).more (by simp)) (reads_blk (Blk.new w1 5 #[.int .u8 2, .int .u8 1, .int .u8 97, .int .u8 1, .int .u8 98, .int .u8 1, .int .u8 5]) _ 7 _ (by simp) rfl rfl) (by omega)).mono ?_
  rintro e w2 ⟨rfl, hd⟩
  go_wp2_with fail
  go_ret
  exact ⟨rfl, hd.below (hb1.alloc hb1.size _)⟩
end Go.Proofs.Ytppeagjklndidaa
