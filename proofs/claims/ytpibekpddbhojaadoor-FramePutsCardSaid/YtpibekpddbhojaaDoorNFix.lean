/- Contract of the Reader's Fix, with every error. -/
import Derived.Test.YtpibekpddbhojaaDoorRdE
namespace Go.Proofs.YtpibekpddbhojaaDoor
open Go.RowKit
set_option linter.unusedVariables false
set_option linter.unusedSimpArgs false
set_option maxRecDepth 100000

theorem nfix_is {w : World} {g : Nat} {l : List Nat} {at_ : Nat} {x : Option (Int × Nat)} (n : Int) (h : RdS w g l at_ x) :
    Calls Tryd.prog 39 #[.pointer (some ⟨g, 0, none⟩), .int .i64 n] w
      fun e w' => e = .returned (.int .u64 ((fixS l at_ x n).1 : Int)) ∧ RdTo w g l (fixS l at_ x n).2.1 (fixS l at_ x n).2.2 w' := by
  cases x with
  | some x =>
    go_enter Tryd.func39, Tryd.ntmps39
    go_wp2_with (go_at_call 42; refine (stopped_err h).mono ?_; rintro e w1 ⟨rfl, rfl⟩)
    go_ret
    exact ⟨rfl, RdTo.same h (Drawn.refl w)⟩
  | none =>
    have hp := h.place
    by_cases h0 : n < 0 ∨ 8 < n
    · have hS : fixS l at_ none n = (0, at_, some (1, at_)) := by unfold fixS; simp only; rw [if_pos h0]
      rw [hS]
      clear hS
      rcases h0 with h0 | h0
      · go_enter Tryd.func39, Tryd.ntmps39
        go_wp2_with (first
          | (go_at_call 42; refine (stopped_is h).mono ?_; rintro e w1 ⟨rfl, rfl⟩)
          | (go_at_call 43; refine (stop_is 1 h).mono ?_; rintro e w2 ⟨rfl, hto⟩))
        go_ret
        exact ⟨rfl, hto⟩
      · have h0' : ¬ n < 0 := by omega
        go_enter Tryd.func39, Tryd.ntmps39
        go_wp2_with (first
          | (go_at_call 42; refine (stopped_is h).mono ?_; rintro e w1 ⟨rfl, rfl⟩)
          | (go_at_call 43; refine (stop_is 1 h).mono ?_; rintro e w2 ⟨rfl, hto⟩))
        go_ret
        exact ⟨rfl, hto⟩
    · by_cases h1 : (l.length : Int) - at_ < n
      · have hS : fixS l at_ none n = (0, at_, some (2, at_)) := by unfold fixS; simp only; rw [if_neg h0, if_pos h1]
        rw [hS]
        clear hS
        have h2 : ¬ n < 0 := fun h' => h0 (.inl h')
        have h3 : ¬ 8 < n := fun h' => h0 (.inr h')
        clear h0
        go_enter Tryd.func39, Tryd.ntmps39
        go_wp2_with (first
          | (go_at_call 42; refine (stopped_is h).mono ?_; rintro e w1 ⟨rfl, rfl⟩)
          | (go_at_call 44; refine (left_is h).mono ?_; rintro e w1 ⟨rfl, hd⟩; have h2' := h.next (hd.below (Below.refl _ _)))
          | (go_at_call 43; refine (stop_is 2 h2').mono ?_; rintro e w2 ⟨rfl, hto⟩))
        go_ret
        exact ⟨rfl, hto.1, only_trans (only_below (World.grownBy.refl w _) (hd.below (Below.refl _ _))) hto.2⟩
      · obtain ⟨k, rfl⟩ := Int.eq_ofNat_of_zero_le (show 0 ≤ n by omega)
        have hS : fixS l at_ none (k : Int) = (unfx ((l.drop at_).take k), at_ + k, none) := by unfold fixS; simp only; rw [if_neg h0, if_neg h1]; rfl
        rw [hS]
        obtain ⟨A, m, c, err, hR, rfl⟩ := h
        exact (fix_ok k hR (by omega) (by have := hR.length; omega)).mono fun e w' ⟨he, hr, hg⟩ => ⟨he, ⟨A, m, c, _, hr, rfl⟩, hg⟩
end Go.Proofs.YtpibekpddbhojaaDoor
