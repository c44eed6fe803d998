/- Contract of the statements' awake: the document's examples hold; it answers true. -/
import Derived.Test.YtphecljgbnkmlaaDoorSame
namespace Go.Proofs.YtphecljgbnkmlaaDoor
open Go.RowKit
set_option linter.unusedVariables false
set_option maxRecDepth 100000

theorem zig_m1 (w : World) : Calls Tryd.prog 28 #[.int .i64 (-1)] w fun e w' => e = .returned (.int .u64 1) ∧ w = w' := by
  go_enter Tryd.func28, Tryd.ntmps28
  go_wp2_with fail
  go_ret
  exact ⟨rfl, rfl⟩

theorem vb_300 : vb 300 = [172, 2] := by decide +kernel

theorem awake_any (w : World) : Calls Tryd.prog 6 #[] w fun e w' => e = .returned (.bool true) ∧ Below w.heap.size w w' := by
  go_enter Tryd.func6, Tryd.ntmps6
  go_wp2_with (first
    | (go_at_call 26; refine (putVar_any none 0 0 300 [] w (by omega) Reads.none_ (by simp) (by omega)).mono ?_; rintro e w1 ⟨v, rfl, hown, hb⟩; obtain ⟨A, c, rfl, hc1, hc2, hr⟩ := own_slice hown)
    | (go_at_call 12; refine (same_true A _ _ c 2 2 (vb 300) _ (by exact (hr.alloc (Nat.le_refl _) _).more (by simp)) (by exact (reads_blk (Blk.new w1 _ _) _ _ _ (by simp) (by simp [vb_300, bs]) (by simp [vb_300, bs]))) (by have := vb_length 300; omega)).mono ?_; rintro e w2 ⟨rfl, hd⟩)
    | (go_at_call 28; refine (zig_m1 _).mono ?_; rintro e w3 ⟨rfl, rfl⟩))
  go_ret
  exact ⟨rfl, hd.below (hb.alloc hb.size _)⟩
end Go.Proofs.YtphecljgbnkmlaaDoor
