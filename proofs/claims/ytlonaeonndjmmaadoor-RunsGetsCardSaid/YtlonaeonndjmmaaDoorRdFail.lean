/- Contract of the Reader's Fail. -/
import Derived.Test.YtlonaeonndjmmaaDoorRdE
namespace Go.Proofs.YtlonaeonndjmmaaDoor
open Go.RowKit
set_option linter.unusedVariables false
set_option linter.unusedSimpArgs false
set_option maxRecDepth 100000

theorem fail_nil (k : Int) (w : World) : Calls Tryd.prog 25 #[.pointer none, .int .i64 k] w fun e w' => e = .returned (.tuple #[]) ∧ w = w' := by
  go_enter Tryd.func25, Tryd.ntmps25
  go_wp2_with (go_at_call 32; refine (stopped_nil _).mono ?_; rintro e w1 ⟨rfl, rfl⟩)
  go_end0
  exact ⟨rfl, rfl⟩
theorem fail_is {w : World} {g : Nat} {l : List Nat} {at_ : Nat} {x : Option (Int × Nat)} (k : Int) (h : RdS w g l at_ x) :
    Calls Tryd.prog 25 #[.pointer (some ⟨g, 0, none⟩), .int .i64 k] w fun e w' => e = .returned (.tuple #[]) ∧ RdTo w g l at_ (failS at_ x k) w' := by
  cases x with
  | some x =>
    go_enter Tryd.func25, Tryd.ntmps25
    go_wp2_with (go_at_call 32; refine (stopped_err h).mono ?_; rintro e w1 ⟨rfl, rfl⟩)
    go_end0
    exact ⟨rfl, RdTo.same h (Drawn.refl w)⟩
  | none =>
    by_cases hk : k = 0
    · subst hk
      go_enter Tryd.func25, Tryd.ntmps25
      go_wp2_with (go_at_call 32; refine (stopped_is h).mono ?_; rintro e w1 ⟨rfl, rfl⟩)
      go_end0
      exact ⟨rfl, RdTo.same h (Drawn.refl w)⟩
    · have hk1 : (k == 0) = false := by simp [hk]
      have hk2 : (k != 0) = true := by simp [hk]
      have hF : failS at_ none k = some (k, at_) := by unfold failS; simp [hk]
      have HF := Lib.hid hF
      clear hF
      go_enter Tryd.func25, Tryd.ntmps25
      go_wp2_with (first
        | (go_at_call 32; refine (stopped_is h).mono ?_; rintro e w1 ⟨rfl, rfl⟩)
        | (go_at_call 34; refine (stop_is k h).mono ?_; rintro e w2 ⟨rfl, hto⟩))
      go_end0
      rw [HF.out]
      exact ⟨rfl, hto⟩
end Go.Proofs.YtlonaeonndjmmaaDoor
