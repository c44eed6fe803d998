/- What is put is found again, told of lists of bytes: a short number, a fixed number and a blob, one behind the other. -/
import Derived.Test.YtphecljgbnkmlaaDoorRBlob
import Derived.Test.YtphecljgbnkmlaaDoorBlob
namespace Go.Proofs.YtphecljgbnkmlaaDoor
set_option linter.unusedVariables false

theorem look_vbF (f : Nat) : ∀ v i acc (r : List Nat), i + f = 9 → v * 128 ^ i < 18446744073709551616 → (i = 0 ∨ v ≠ 0) → lookF i acc (vbF f v ++ r) = (acc + v * 128 ^ i, i + (vbF f v).length, 0) := by
  induction f with
  | zero =>
    intro v i acc r hi hv h0
    obtain rfl : i = 9 := by omega
    have hv1 : v = 1 := by
      have : (128 : Nat) ^ 9 = 9223372036854775808 := by decide
      rw [this] at hv; omega
    subst hv1
    show lookF 9 acc (1 :: r) = _
    unfold lookF
    simp [vbF]
  | succ f ih =>
    intro v i acc r hi hv h0
    rw [vbF_step]
    by_cases h : v < 128
    · rw [if_pos h]
      show lookF i acc (v :: r) = _
      unfold lookF
      rw [if_neg (by omega), if_pos h, Nat.mod_eq_of_lt h]
      rfl
    · rw [if_neg h]
      show lookF i acc ((128 + v % 128) :: (vbF f (v / 128) ++ r)) = _
      unfold lookF
      have e : (128 + v % 128) % 128 = v % 128 := by omega
      have hp : v * 128 ^ i = v % 128 * 128 ^ i + v / 128 * 128 ^ (i + 1) := by
        rw [Nat.pow_succ, Nat.mul_comm (128 ^ i) 128, ← Nat.mul_assoc, ← Nat.add_mul]
        congr 1; omega
      rw [if_neg (by omega), if_neg (by omega), e, ih (v / 128) (i + 1) _ r (by omega) (by omega) (by omega)]
      simp only [List.length_cons, Prod.mk.injEq, and_true]
      omega
theorem look_vb (v : Nat) (hv : v < 18446744073709551616) (r : List Nat) : lookF 0 0 (vb v ++ r) = (v, (vb v).length, 0) := by
  have := look_vbF 9 v 0 0 r (by omega) (by omega) (.inl rfl)
  simpa [vb] using this
/-- All that the statement lays: number, fixed number, blob, rest. -/
def laid4 (v : Nat) (p rest : List Nat) : List Nat := vb v ++ (fx 8 v ++ (blob p ++ rest))
theorem laid4_len (v : Nat) (p rest : List Nat) : (laid4 v p rest).length = (vb v).length + (8 + ((vb p.length).length + p.length + rest.length)) := by
  simp [laid4, blob, fx_length]; omega
theorem laid4_var (v : Nat) (p rest : List Nat) (hv : v < 18446744073709551616) : varS (laid4 v p rest) 0 none = (v, (vb v).length, none) := by
  unfold varS
  rw [List.drop_zero]
  unfold laid4
  simp only [look_vb v hv, if_true, Nat.zero_add]
theorem laid4_d1 (v : Nat) (p rest : List Nat) : (laid4 v p rest).drop (vb v).length = fx 8 v ++ (blob p ++ rest) := by
  unfold laid4; rw [List.drop_append_of_le_length (Nat.le_refl _), List.drop_length, List.nil_append]
theorem laid4_fix (v : Nat) (p rest : List Nat) (hv : v < 18446744073709551616) : unfx (((laid4 v p rest).drop (vb v).length).take 8) = v := by
  rw [laid4_d1, List.take_append_of_le_length (by rw [fx_length]; omega), List.take_of_length_le (by rw [fx_length]; omega), unfx_fx]
  exact Nat.mod_eq_of_lt (by omega)
theorem laid4_d2 (v : Nat) (p rest : List Nat) : (laid4 v p rest).drop ((vb v).length + 8) = vb p.length ++ (p ++ rest) := by
  rw [← List.drop_drop, laid4_d1, List.drop_append_of_le_length (by rw [fx_length]; omega), List.drop_of_length_le (by rw [fx_length]; omega)]
  simp [blob]
theorem laid4_blob (v : Nat) (p rest : List Nat) (hp : p.length ≤ 300) : blobS (laid4 v p rest) ((vb v).length + 8) none 300 = (p, (vb v).length + 8 + ((vb p.length).length + p.length), none) := by
  have hk := look_vb p.length (by omega) (p ++ rest)
  have hB : lookB ((laid4 v p rest).drop ((vb v).length + 8)) 300 = ((vb p.length).length, (vb p.length).length + p.length, 0) := by
    unfold lookB
    rw [laid4_d2]
    simp only [hk, if_true]
    rw [if_neg (by omega), if_neg (by simp)]
  unfold blobS
  simp only [hB, if_true]
  rw [laid4_d2, List.drop_take, Nat.add_sub_cancel_left, List.drop_append_of_le_length (Nat.le_refl _), List.drop_length, List.nil_append, List.take_append_of_le_length (Nat.le_refl _), List.take_length]
end Go.Proofs.YtphecljgbnkmlaaDoor
