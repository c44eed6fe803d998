/- Texts joined: LookCanon LookBack LookCut. -/
import Derived.Test.YtppeagjklndidaaDoorLook
/- A short number that is taken has just the bytes that it has when it is put. Plain. -/
namespace Go.Proofs.YtppeagjklndidaaDoor
open Go.RowKit
set_option linter.unusedVariables false
set_option linter.unusedSimpArgs false
set_option maxRecDepth 100000

theorem look_canon (l : List Nat) : ∀ i acc v m, (∀ b ∈ l, b < 256) → lookF i acc l = (v, m, 0) → ∃ u, v = acc + u * 128 ^ i ∧ i ≤ 9 ∧ (0 < i → u ≠ 0) ∧ l.take (m - i) = vbF (9 - i) u ∧ i < m ∧ u * 128 ^ i + 128 ^ i ≤ 18446744073709551616 := by
  induction l with
  | nil => intro i acc v m _ h; simp [lookF] at h
  | cons b r ih =>
    intro i acc v m hb h
    have hb0 := hb b (by simp)
    unfold lookF at h
    by_cases hF : (0 < i ∧ b = 0) ∨ (i = 9 ∧ 1 < b % 128) ∨ 9 < i
    · rw [if_pos hF] at h; simp at h
    · rw [if_neg hF] at h
      have h9 : i ≤ 9 := by omega
      have h91 : i = 9 → b % 128 ≤ 1 := fun e => by omega
      by_cases h1 : b < 128
      · rw [if_pos h1] at h
        simp only [Prod.mk.injEq, and_true] at h
        obtain ⟨rfl, rfl⟩ := h
        have hm := Nat.mod_eq_of_lt h1
        have hs := shl_bound b i h9 h91
        rw [hm] at hs ⊢
        refine ⟨b, rfl, h9, fun h0 e => hF (.inl ⟨h0, e⟩), ?_, by omega, hs⟩
        rw [show i + 1 - i = 1 by omega]
        rcases Nat.lt_or_ge i 9 with h8 | h8
        · rw [show 9 - i = (8 - i) + 1 by omega, vbF_step, if_pos h1]; rfl
        · rw [show 9 - i = 0 by omega]; rfl
      · rw [if_neg h1] at h
        obtain ⟨u, e1, e2, e3, e4, e5, e6⟩ := ih (i + 1) _ v m (fun x hx => hb x (by simp [hx])) h
        have hu := e3 (by omega)
        rw [Nat.pow_succ] at e1 e6
        generalize 128 ^ i = P at e1 e6 ⊢
        have e7 : (b % 128 + 128 * u) * P = b % 128 * P + u * (P * 128) := by
          rw [Nat.add_mul, Nat.mul_comm 128 u, Nat.mul_assoc, Nat.mul_comm 128 P]
        have e8 : b % 128 * P + P ≤ P * 128 := by
          have : (b % 128 + 1) * P ≤ 128 * P := Nat.mul_le_mul_right _ (by omega)
          rw [Nat.add_mul, Nat.one_mul] at this; omega
        refine ⟨b % 128 + 128 * u, by rw [e7]; omega, h9, fun _ => by omega, ?_, by omega, by rw [e7]; omega⟩
        rw [show m - i = (m - (i + 1)) + 1 by omega, List.take_succ_cons, e4, show 9 - i = (9 - (i + 1)) + 1 by omega, vbF_step, if_neg (by omega)]
        congr 1
        · omega
        · congr 1; omega
theorem look_is {l : List Nat} {v m : Nat} (hb : ∀ b ∈ l, b < 256) (h : lookF 0 0 l = (v, m, 0)) : l.take m = vb v ∧ v < 18446744073709551616 := by
  obtain ⟨u, e1, _, _, e4, _, e6⟩ := look_canon l 0 0 v m hb h
  simp only [Nat.pow_zero, Nat.mul_one, Nat.zero_add] at e1 e6
  subst e1
  exact ⟨e4, by omega⟩
end Go.Proofs.YtppeagjklndidaaDoor

/- A short number that was put is taken as it was. Plain. -/
namespace Go.Proofs.YtppeagjklndidaaDoor
open Go.RowKit
set_option linter.unusedVariables false
set_option linter.unusedSimpArgs false
set_option maxRecDepth 100000

theorem look_vbF (f : Nat) : ∀ v i acc (r : List Nat), i + f = 9 → v * 128 ^ i < 18446744073709551616 → (i = 0 ∨ v ≠ 0) → lookF i acc (vbF f v ++ r) = (acc + v * 128 ^ i, i + (vbF f v).length, 0) := by
  induction f with
  | zero =>
    intro v i acc r hi hv h0
    obtain rfl : i = 9 := by omega
    have hv1 : v = 1 := by
      have : (128 : Nat) ^ 9 = 9223372036854775808 := by decide
      rw [this] at hv; omega
    subst hv1
    show lookF 9 acc (1 :: r) = _
    unfold lookF
    simp [vbF]
  | succ f ih =>
    intro v i acc r hi hv h0
    rw [vbF_step]
    by_cases h : v < 128
    · rw [if_pos h]
      show lookF i acc (v :: r) = _
      unfold lookF
      rw [if_neg (by omega), if_pos h, Nat.mod_eq_of_lt h]
      rfl
    · rw [if_neg h]
      show lookF i acc ((128 + v % 128) :: (vbF f (v / 128) ++ r)) = _
      unfold lookF
      have e : (128 + v % 128) % 128 = v % 128 := by omega
      have hp : v * 128 ^ i = v % 128 * 128 ^ i + v / 128 * 128 ^ (i + 1) := by
        rw [Nat.pow_succ, Nat.mul_comm (128 ^ i) 128, ← Nat.mul_assoc, ← Nat.add_mul]
        congr 1; omega
      rw [if_neg (by omega), if_neg (by omega), e, ih (v / 128) (i + 1) _ r (by omega) (by omega) (by omega)]
      simp only [List.length_cons, Prod.mk.injEq, and_true]
      omega
theorem look_vb (v : Nat) (hv : v < 18446744073709551616) (r : List Nat) : lookF 0 0 (vb v ++ r) = (v, (vb v).length, 0) := by
  have := look_vbF 9 v 0 0 r (by omega) (by omega) (.inl rfl)
  simpa [vb] using this
end Go.Proofs.YtppeagjklndidaaDoor

/- A short number that is cut off is short; a new reader as a reader with its error. -/
namespace Go.Proofs.YtppeagjklndidaaDoor
open Go.RowKit
set_option linter.unusedVariables false
set_option linter.unusedSimpArgs false
set_option maxRecDepth 100000

theorem short_pre (f : Nat) : ∀ v i acc j, i + f ≤ 9 → j < (vbF f v).length → lookF i acc ((vbF f v).take j) = (0, 0, 2) := by
  induction f with
  | zero => intro v i acc j hi hj; simp [vbF] at hj; subst hj; simp [lookF]
  | succ f ih =>
    intro v i acc j hi hj
    rw [vbF_step] at hj ⊢
    by_cases h : v < 128
    · rw [if_pos h] at hj; simp at hj; subst hj; simp [lookF]
    · rw [if_neg h] at hj ⊢
      cases j with
      | zero => simp [lookF]
      | succ j =>
        simp only [List.length_cons] at hj
        rw [List.take_succ_cons]
        unfold lookF
        rw [if_neg (by omega), if_neg (by omega)]
        exact ih _ _ _ _ (by omega) (by omega)
theorem short_vb (v j : Nat) (hj : j < (vb v).length) : lookF 0 0 ((vb v).take j) = (0, 0, 2) := short_pre 9 v 0 0 j (by omega) hj
theorem rd_new {w : World} {g : Nat} {A : Option Addr} {n c : Nat} {l : List Nat} (h : Rd w g A n c 0 .nilIface l) : RdS w g l 0 none := ⟨A, n, c, _, h, rfl⟩

end Go.Proofs.YtppeagjklndidaaDoor
