/- Plain facts on reading the form by a list: the reader behind each part, the list, the places, the first error. -/
import Derived.Test.YtppeagjklndidaaGreatDoorPlRead
import Derived.Test.YtppeagjklndidaaGreatDoorDcPlain
import Derived.Test.YtppeagjklndidaaGreatDoorJ27
namespace Go.Proofs.YtppeagjklndidaaGreatDoor
open Go.RowKit
set_option linter.unusedVariables false
set_option linter.unusedSimpArgs false
set_option maxRecDepth 100000

theorem wr64 (n : Int) : wrap64 n = (n + 9223372036854775808) % 18446744073709551616 - 9223372036854775808 := by unfold wrap64; rfl
theorem wr64_in (n : Int) : In64 (wrap64 n) := by rw [wr64]; unfold In64; omega
theorem wr64_id {n : Int} (h : In64 n) : wrap64 n = n := by unfold In64 at h; rw [wr64]; omega
/-- The reader's place and error, and the last number, behind so many numbers of the list. -/
def ldS (b : List Nat) : Nat → (Nat × Option (Int × Nat)) × Int
  | 0 => (vst b 1, 0)
  | k + 1 =>
    let v := varS b (ldS b k).1.1 (ldS b k).1.2
    if k = 0 then (v.2, zagI (v.1 : Int))
    else (if wrap64 ((ldS b k).2 + v.1 + 1) ≤ (ldS b k).2 then (v.2.1, failS v.2.1 v.2.2 4) else v.2, wrap64 ((ldS b k).2 + v.1 + 1))
/-- The numbers of the list. -/
def ldL (b : List Nat) (k : Nat) : List Int := (List.range k).map fun i => (ldS b (i + 1)).2
theorem ldL_length (b : List Nat) (k : Nat) : (ldL b k).length = k := by simp [ldL]
theorem ldL_succ (b : List Nat) (k : Nat) : ldL b (k + 1) = ldL b k ++ [(ldS b (k + 1)).2] := by simp [ldL, List.range_succ]
theorem ldL_at (b : List Nat) (n k : Nat) (h : k < n) : (ldL b n)[k]? = some (ldS b (k + 1)).2 := by simp [ldL, h]
theorem ldL_take (b : List Nat) (n k : Nat) (h : k ≤ n) : (ldL b n).take k = ldL b k := by
  unfold ldL
  rw [← List.map_take, List.take_range, Nat.min_eq_left h]
theorem varS_some (b : List Nat) (at_ : Nat) (y : Int × Nat) : varS b at_ (some y) = (0, at_, some y) := rfl
theorem ldS_some {b : List Nat} {k : Nat} {y : Int × Nat} (h : (ldS b k).1.2 = some y) : (ldS b (k + 1)).1 = (ldS b k).1 := by
  have e : ∀ a : Nat × Option (Int × Nat), a.2 = some y → varS b a.1 a.2 = (0, a) := by
    rintro ⟨p, q⟩ h
    simp only at h
    subst h
    rfl
  simp only [ldS]
  rw [e _ h]
  by_cases h0 : k = 0
  · rw [if_pos h0]
  · rw [if_neg h0]
    simp only
    split
    · rw [h]
      show ((ldS b k).1.1, some y) = _
      rw [← h]
    · rfl
theorem ldS_stop {b : List Nat} {k : Nat} {y : Int × Nat} (h : (ldS b k).1.2 = some y) : ∀ j, (ldS b (k + j)).1 = (ldS b k).1
  | 0 => rfl
  | j + 1 => by
    have := ldS_stop h j
    rw [← Nat.add_assoc, ldS_some (y := y) (by rw [this]; exact h), this]
theorem ldS_in {b : List Nat} (hb : ∀ x ∈ b, x < 256) (k : Nat) : In64 (ldS b k).2 := by
  cases k with
  | zero => simp [ldS, In64]
  | succ k =>
    simp only [ldS]
    by_cases h0 : k = 0
    · rw [if_pos h0]
      simp only
      refine zagI_in ?_
      subst h0
      exact vv_lt hb 1
    · rw [if_neg h0]; exact wr64_in _
theorem ldL_in {b : List Nat} (hb : ∀ x ∈ b, x < 256) (k : Nat) : ∀ z ∈ ldL b k, In64 z := by
  intro z hz
  obtain ⟨i, _, rfl⟩ := List.mem_map.1 hz
  exact ldS_in hb _
theorem varS_lt {b : List Nat} (hb : ∀ x ∈ b, x < 256) (at_ : Nat) (x : Option (Int × Nat)) : (varS b at_ x).1 < 18446744073709551616 := by
  cases x with
  | some y => show 0 < _; omega
  | none =>
    unfold varS
    simp only
    split
    · rename_i h1
      rcases hl : lookF 0 0 (b.drop at_) with ⟨v, m, e⟩
      rw [hl] at h1
      simp only at h1
      subst h1
      exact (look_is (fun x h => hb x (List.mem_of_mem_drop h)) hl).2
    · show 0 < _; omega
theorem ldS_ok (b : List Nat) (k : Nat) : ∀ y, (ldS b k).1.2 = some y → y.1 ≠ 0 := by
  induction k with
  | zero => intro y h; exact vst_ok b 1 y h
  | succ k ih =>
    intro y h
    cases hx : (ldS b k).1.2 with
    | some z => rw [ldS_some hx] at h; exact ih y h
    | none =>
      simp only [ldS] at h
      rw [hx] at h
      have hv : ∀ y, (varS b (ldS b k).1.1 none).2.2 = some y → y.1 ≠ 0 := by
        intro y h
        unfold varS at h
        simp only at h
        split at h
        · cases h
        · injection h with h
          subst h
          show ((lookF 0 0 (b.drop (ldS b k).1.1)).2.2 : Int) ≠ 0
          omega
      by_cases h0 : k = 0
      · rw [if_pos h0] at h; exact hv y h
      · rw [if_neg h0] at h
        simp only at h
        split at h
        · cases hq : (varS b (ldS b k).1.1 none).2.2 with
          | some z =>
            rw [hq] at h
            simp only [failS] at h
            injection h with h
            subst h
            exact hv _ hq
          | none =>
            rw [hq] at h
            simp only [failS] at h
            rw [if_neg (by omega)] at h
            injection h with h
            subst h
            simp
        · exact hv y h
/-- Where nothing is wrong: the reader stands behind so many short numbers, and each number is above the one ahead. -/
theorem ldS_none {b : List Nat} (hb : ∀ x ∈ b, x < 256) (k : Nat) : (ldS b (k + 1)).1.2 = none →
    (ldS b k).1.2 = none ∧ (ldS b (k + 1)).1 = vst b (k + 2) ∧ (ldS b (k + 1)).2 = (if k = 0 then zagI (vv b 1 : Int) else (ldS b k).2 + vv b (k + 1) + 1) ∧ (k ≠ 0 → (ldS b k).2 < (ldS b (k + 1)).2) := by
  induction k with
  | zero =>
    intro h
    refine ⟨?_, rfl, rfl, fun h => absurd rfl h⟩
    cases hx : (ldS b 0).1.2 with
    | some y => rw [ldS_some hx, hx] at h; cases h
    | none => rfl
  | succ k ih =>
    intro h
    have h0 : (ldS b (k + 1)).1.2 = none := by
      cases hx : (ldS b (k + 1)).1.2 with
      | some y => rw [ldS_some hx, hx] at h; cases h
      | none => rfl
    obtain ⟨_, e, _, _⟩ := ih h0
    refine ⟨h0, ?_⟩
    have hin := ldS_in hb (k + 1)
    have hv := vv_lt hb (k + 2)
    have h1 : ldS b (k + 2) = (if wrap64 ((ldS b (k + 1)).2 + vv b (k + 2) + 1) ≤ (ldS b (k + 1)).2 then ((vst b (k + 3)).1, failS (vst b (k + 3)).1 (vst b (k + 3)).2 4) else vst b (k + 3), wrap64 ((ldS b (k + 1)).2 + vv b (k + 2) + 1)) := by
      conv => lhs; unfold ldS
      simp only
      rw [if_neg (by omega), e]
      rfl
    rw [h1] at h ⊢
    simp only at h ⊢
    rw [if_neg (show ¬ k + 1 = 0 by omega)]
    by_cases hle : wrap64 ((ldS b (k + 1)).2 + vv b (k + 2) + 1) ≤ (ldS b (k + 1)).2
    · rw [if_pos hle] at h
      simp only at h
      exfalso
      unfold failS at h
      cases hq : (vst b (k + 3)).2 with
      | some y => rw [hq] at h; cases h
      | none => rw [hq] at h; simp only at h; rw [if_neg (by omega)] at h; cases h
    · rw [if_neg hle]
      refine ⟨rfl, ?_, fun _ => by omega⟩
      show wrap64 ((ldS b (k + 1)).2 + vv b (k + 2) + 1) = (ldS b (k + 1)).2 + vv b (k + 2) + 1
      rw [wr64] at hle ⊢
      unfold In64 at hin
      omega
theorem ldS_before {b : List Nat} {c k : Nat} (h : (ldS b c).1.2 = none) (hk : k ≤ c) : (ldS b k).1.2 = none := by
  cases hx : (ldS b k).1.2 with
  | none => rfl
  | some y =>
    have := ldS_stop hx (c - k)
    rw [show k + (c - k) = c by omega] at this
    rw [this, hx] at h; cases h
theorem ldS_place {b : List Nat} (hb : ∀ x ∈ b, x < 256) {k : Nat} (h : (ldS b k).1.2 = none) : (ldS b k).1 = vst b (k + 1) := by
  cases k with
  | zero => rfl
  | succ k => exact (ldS_none hb k h).2.1
theorem ldL_rise {b : List Nat} (hb : ∀ x ∈ b, x < 256) (c : Nat) (h : (ldS b c).1.2 = none) : Rise (ldL b c) := by
  have key : ∀ k, k ≤ c → Rise (ldL b k) ∧ ∀ z ∈ ldL b k, z ≤ (ldS b k).2 := by
    intro k
    induction k with
    | zero => intro _; exact ⟨by simp [ldL, Rise], by simp [ldL]⟩
    | succ k ih =>
      intro hk
      obtain ⟨i1, i2⟩ := ih (by omega)
      obtain ⟨_, _, _, e⟩ := ldS_none hb k (ldS_before h hk)
      rw [ldL_succ]
      refine ⟨?_, ?_⟩
      · unfold Rise
        rw [List.pairwise_append]
        refine ⟨i1, by simp, ?_⟩
        intro x hx y hy
        rw [List.mem_singleton] at hy
        subst hy
        by_cases h0 : k = 0
        · subst h0; simp [ldL] at hx
        · have := i2 x hx; have := e h0; omega
      · intro z hz
        rcases List.mem_append.1 hz with hz | hz
        · by_cases h0 : k = 0
          · subst h0; simp [ldL] at hz
          · have := i2 z hz; have := e h0; omega
        · rw [List.mem_singleton] at hz; omega
  exact (key c (Nat.le_refl _)).1
/-- The short numbers that were read are those of the list. -/
theorem ldL_head {b : List Nat} (hb : ∀ x ∈ b, x < 256) (c : Nat) (h : (ldS b c).1.2 = none) : ∀ k, k < c → (htD (ldL b c))[k]? = some (vv b (k + 1)) := by
  intro k hk
  obtain ⟨_, _, e1, _⟩ := ldS_none hb k (ldS_before h (by omega))
  have hat := ldL_at b c k hk
  cases k with
  | zero =>
    rw [htD_zero hat, e1, if_pos rfl, zg_zagI]
  | succ k =>
    have hat0 := ldL_at b c k (by omega)
    rw [htD_succ hat0 hat, e1, if_neg (by omega)]
    congr 1
    omega
end Go.Proofs.YtppeagjklndidaaGreatDoor
