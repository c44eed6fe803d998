/- Contract of layer 12's awake: the document's example holds. -/
import Derived.Test.YtpjmenaejfdiaaaFoPut
import Derived.Test.YtpjmenaejfdiaaaSame
namespace Go.Proofs.Ytpjmenaejfdiaaa
open Go.RowKit
set_option linter.unusedVariables false
set_option linter.unusedSimpArgs false
set_option maxRecDepth 100000

theorem fo_ex : fo [100, 103, 101] = [200, 1, 2, 28] := by decide +kernel
theorem ex_in : ∀ z ∈ ([100, 103, 101] : List Int), In64 z := by
  intro z hz
  simp at hz
  unfold In64
  omega
theorem awake_any (w : World) : Calls Try.prog 5 #[] w fun e w' => e = .returned (.bool true) ∧ Below w.heap.size w w' := by
  go_enter Try.func5, Try.ntmps5
  go_wp2_with fail
  refine (foPut_any (some ⟨w.heap.size, 0, none⟩) 3 3 [100, 103, 101] _ (reads_blk (Blk.new w 2 #[.int .i64 100, .int .i64 103, .int .i64 101]) _ 3 _ (by simp) rfl rfl) ex_in (by omega)).mono ?_
  rw [fo_ex]
  rintro e w1 ⟨v, rfl, hown, hb⟩
  obtain ⟨A, c, rfl, _, _, hr⟩ := own_slice hown
  have hb1 : Below w.heap.size w w1 := ((Below.refl _ _).alloc (Nat.le_refl _) _).trans (hb.mono (by simp))
  clear hown hb
  go_wp2_with fail
  refine (same_true A _ 4 c 4 4 [200, 1, 2, 28] _ ((hr.alloc (Nat.le_refl _) _).more (by simp)) (reads_blk (Blk.new w1 5 #[.int .u8 200, .int .u8 1, .int .u8 2, .int .u8 28]) _ 4 _ (by simp) rfl rfl) (by omega)).mono ?_
  rintro e w2 ⟨rfl, hd⟩
  go_wp2_with fail
  go_ret
  exact ⟨rfl, hd.below (hb1.alloc hb1.size _)⟩
end Go.Proofs.Ytpjmenaejfdiaaa
