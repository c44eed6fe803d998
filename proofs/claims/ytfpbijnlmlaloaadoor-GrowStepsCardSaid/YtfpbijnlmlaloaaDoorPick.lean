/- The contract of the statements' Pick: a place below a number. -/
import Derived.Test.YtfpbijnlmlaloaaDoorWords
import Derived.Test.YtfpbijnlmlaloaaDoorChecked
namespace Go.Proofs.YtfpbijnlmlaloaaDoor
open Go.RowKit
set_option linter.unusedVariables false
set_option linter.unusedSimpArgs false
set_option maxRecDepth 100000

/-- A place below 'n'. -/
def Picks (n : Nat) (w : World) (e : Ending) (w' : World) : Prop := ∃ p : Nat, p < n ∧ e = .returned (.int .i64 (p : Int)) ∧ w = w'
theorem tmod_neg (k n : Int) (hk : k < 0) (hn : 1 ≤ n) : k.tmod n = -((-k) % n) := by
  have h := Int.neg_tmod (-k) n
  rw [Int.neg_neg] at h
  rw [h, Int.tmod_eq_emod_of_nonneg (by omega)]
theorem pick_any (k : Int) (n : Nat) (w : World) (h1 : -9223372036854775808 ≤ k) (h2 : k ≤ 9223372036854775807) (hn : 1 ≤ n) (hn2 : n ≤ 9223372036854775807) :
    Calls Tryd.prog 14 #[.int .i64 k, .int .i64 (n : Int)] w (Picks n w) := by
  by_cases h : 0 ≤ k
  · have hx : 0 ≤ k % (n : Int) := Int.emod_nonneg _ (by omega)
    have hy : k % (n : Int) < n := Int.emod_lt_of_pos _ (by omega)
    go_enter Tryd.func14, Tryd.ntmps14
    go_wp2_with fail
    go_ret
    exact ⟨(k % (n : Int)).toNat, by omega, ret_of (congrArg (Value.int .i64) (show k % (n : Int) = _ by omega)), rfl⟩
  · have hx : 0 ≤ (-k) % (n : Int) := Int.emod_nonneg _ (by omega)
    have hy : (-k) % (n : Int) < n := Int.emod_lt_of_pos _ (by omega)
    have ht := tmod_neg k n (by omega) (by omega)
    go_enter Tryd.func14, Tryd.ntmps14
    go_wp2_with fail
    all_goals go_ret
    · refine ⟨(-((-k) % (n : Int)) + n).toNat, by omega, ret_of (congrArg (Value.int .i64) ?_), rfl⟩
      omega
    · refine ⟨(-((-k) % (n : Int))).toNat, by omega, ret_of (congrArg (Value.int .i64) ?_), rfl⟩
      omega
end Go.Proofs.YtfpbijnlmlaloaaDoor
