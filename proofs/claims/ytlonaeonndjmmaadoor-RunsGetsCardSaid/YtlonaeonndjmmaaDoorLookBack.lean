/- A short number that was put is taken as it was. Plain. -/
import Derived.Test.YtlonaeonndjmmaaDoorLook
namespace Go.Proofs.YtlonaeonndjmmaaDoor
open Go.RowKit
set_option linter.unusedVariables false
set_option linter.unusedSimpArgs false
set_option maxRecDepth 100000

theorem look_vbF (f : Nat) : ∀ v i acc (r : List Nat), i + f = 9 → v * 128 ^ i < 18446744073709551616 → (i = 0 ∨ v ≠ 0) → lookF i acc (vbF f v ++ r) = (acc + v * 128 ^ i, i + (vbF f v).length, 0) := by
  induction f with
  | zero =>
    intro v i acc r hi hv h0
    obtain rfl : i = 9 := by omega
    have hv1 : v = 1 := by
      have : (128 : Nat) ^ 9 = 9223372036854775808 := by decide
      rw [this] at hv; omega
    subst hv1
    show lookF 9 acc (1 :: r) = _
    unfold lookF
    simp [vbF]
  | succ f ih =>
    intro v i acc r hi hv h0
    rw [vbF_step]
    by_cases h : v < 128
    · rw [if_pos h]
      show lookF i acc (v :: r) = _
      unfold lookF
      rw [if_neg (by omega), if_pos h, Nat.mod_eq_of_lt h]
      rfl
    · rw [if_neg h]
      show lookF i acc ((128 + v % 128) :: (vbF f (v / 128) ++ r)) = _
      unfold lookF
      have e : (128 + v % 128) % 128 = v % 128 := by omega
      have hp : v * 128 ^ i = v % 128 * 128 ^ i + v / 128 * 128 ^ (i + 1) := by
        rw [Nat.pow_succ, Nat.mul_comm (128 ^ i) 128, ← Nat.mul_assoc, ← Nat.add_mul]
        congr 1; omega
      rw [if_neg (by omega), if_neg (by omega), e, ih (v / 128) (i + 1) _ r (by omega) (by omega) (by omega)]
      simp only [List.length_cons, Prod.mk.injEq, and_true]
      omega
theorem look_vb (v : Nat) (hv : v < 18446744073709551616) (r : List Nat) : lookF 0 0 (vb v ++ r) = (v, (vb v).length, 0) := by
  have := look_vbF 9 v 0 0 r (by omega) (by omega) (.inl rfl)
  simpa [vb] using this
end Go.Proofs.YtlonaeonndjmmaaDoor
