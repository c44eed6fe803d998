/- The document's Zag. -/
import Derived.Test.YtieknhhhcjdbnaaDoorJ7
import Derived.Test.YtieknhhhcjdbnaaDoorJ2
namespace Go.Proofs.YtieknhhhcjdbnaaDoor
open Go.RowKit
set_option linter.unusedVariables false
set_option linter.unusedSimpArgs false
set_option maxRecDepth 100000

theorem refZag_any (v : Nat) (w : World) (hv : v < 18446744073709551616) : Calls Tryd.prog 31 #[.int .u64 (v : Int)] w fun e w' => e = .returned (.int .i64 (zagI v)) ∧ w = w' := by
  by_cases h : v % 2 = 0
  · have h' : (v : Int) % 2 = 0 := by omega
    have HZ := Lib.hid (show (v : Int) / 2 = zagI v by unfold zagI; rw [if_pos h'])
    clear h
    go_enter Tryd.func31, Tryd.ntmps31
    go_wp2_with fail
    go_ret
    exact ⟨ret_of (congrArg (Value.int .i64) HZ.out), rfl⟩
  · have h' : (v : Int) % 2 = 1 := by omega
    have HZ := Lib.hid (show -((v : Int) / 2) - 1 = zagI v by unfold zagI; rw [if_neg (by omega)])
    clear h
    go_enter Tryd.func31, Tryd.ntmps31
    go_wp2_with fail
    go_ret
    exact ⟨ret_of (congrArg (Value.int .i64) HZ.out), rfl⟩

end Go.Proofs.YtieknhhhcjdbnaaDoor
