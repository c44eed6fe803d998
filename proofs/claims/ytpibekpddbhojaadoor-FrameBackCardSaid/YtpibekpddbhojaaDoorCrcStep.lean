/- Contract of package crc's step of one bit. No condition beside the number's own size. -/
import Derived.Test.YtpibekpddbhojaaDoorMem
import Derived.Test.YtpibekpddbhojaaDoorCrcPlain
import Derived.Deep.WholeRow
import Derived.Deep.LoopGhost
import Derived.Laws.BitsAllLaws
namespace Go.Proofs.YtpibekpddbhojaaDoor
open Go.RowKit
set_option linter.unusedVariables false
set_option maxRecDepth 100000

theorem st_odd {r : Nat} (h : r % 2 = 1) : st r = r / 2 ^^^ 3988292384 := by unfold st; rw [if_pos h]
theorem st_even {r : Nat} (h : ¬ r % 2 = 1) : st r = r / 2 := by unfold st; rw [if_neg h]
theorem step_any (r : Nat) (w : World) (hr : r < 4294967296) : Calls Tryd.prog 41 #[.int .u32 (r : Int)] w fun e w' => e = .returned (.int .u32 (st r : Int)) ∧ w = w' := by
  have hand : bits .and .u32 (r : Int) 1 = ((r % 2 : Nat) : Int) := by
    rw [← nat_mask1]; exact u32_and_nat r 1 hr (by omega)
  by_cases h : r % 2 = 1
  · have e1 := Lib.hid (st_odd h)
    rw [h] at hand
    go_enter Tryd.func41, Tryd.ntmps41
    go_wp2_with fail
    go_ret
    refine ⟨ret_of (congrArg (Value.int .u32) ?_), rfl⟩
    rw [e1.out, ← u32_xor_nat (r / 2) 3988292384 (by omega) (by omega)]
    rfl
  · have e1 := Lib.hid (st_even h)
    rw [show r % 2 = 0 by omega] at hand
    go_enter Tryd.func41, Tryd.ntmps41
    go_wp2_with fail
    go_ret
    refine ⟨ret_of (congrArg (Value.int .u32) ?_), rfl⟩
    rw [e1.out]
    rfl
end Go.Proofs.YtpibekpddbhojaaDoor
